package script_test

import (
	"errors"
	"fmt"
	"slices"
	"strings"
	"testing"

	"hallmark/api"
	"hallmark/script"
)

func TestThereAndBack(t *testing.T) { // P20.5, P20.8
	s := newSource(24)
	kinds := map[int]int{}
	for range 5000 {
		l := some(s.Intn(6), s.act)
		prints(t, written(l...), l...)
		reads(t, written(l...), l...)
		for _, a := range l {
			kinds[a.Kind]++
		}
	}
	if len(kinds) != 12 {
		t.Errorf("%v: too few kinds to tell", kinds)
	}
}

// loose lays blanks, tabs, comments and lines without words into a session, and
// tells at which line each of the given ones stands then.
func (s source) loose(lines [][]string) (string, []int) {
	out, at, n := "", []int{}, 0
	for _, words := range lines {
		for s.Intn(3) == 0 {
			out += s.spaced(nil) + "\n"
			n++
		}
		out += s.spaced(words) + "\n"
		n++
		at = append(at, n)
	}
	return out + s.spaced(nil), at
}

func TestBlanksChangeNothing(t *testing.T) { // P20.8
	s := newSource(25)
	for range 5000 {
		l := some(1+s.Intn(5), s.act)
		var lines [][]string
		for _, a := range l {
			lines = append(lines, pieces(a))
		}
		out, _ := s.loose(lines)
		reads(t, out, l...)
		i := s.Intn(len(lines))
		lines[i] = one(s, []string{"x"}, []string{"drop"}, []string{"drop", "x"}, []string{"log", `"\n"`}, []string{"solve", `"1"`}, []string{"check", "1"}, []string{`"a"`}, []string{"change", "1"})
		joined := ""
		for _, words := range lines {
			joined += strings.Join(words, " ") + "\n"
		}
		var f *api.Fault
		if _, err := script.Parse(joined); !errors.As(err, &f) || f.Line != i+1 {
			t.Fatalf("%q: %v", joined, err)
		}
		out, at := s.loose(lines)
		fails(t, out, at[i], f.Err)
	}
}

func TestBlanksChangeNoPlay(t *testing.T) { // P20.8
	s := newSource(26)
	for range 200 {
		var lines [][]string
		l := s.session()
		for _, a := range l {
			lines = append(lines, pieces(a))
		}
		out, _ := s.loose(lines)
		a, err := script.Play(written(l...))
		b, again := script.Play(out)
		if a != b || err != nil || again != nil {
			t.Fatalf("%q: %q, %v; %q: %q, %v", written(l...), a, err, out, b, again)
		}
	}
}

// strange: an act with anything in its fields.
func (s source) strange() api.Act {
	a := s.act()
	for range s.Intn(2) {
		switch s.Intn(4) {
		case 0:
			a.Kind = s.Intn(16) - 1
		case 1:
			a.N = one(s, 0, 1, -1, 1<<40, 1<<40+1, -1<<40-1, 1<<62)
		case 2:
			a.Text = s.bytes()
		case 3:
			a.List = some(s.Intn(3), func() int { return one(s, s.whole(), s.whole(), 1<<40+1, -1<<40-1) })
		}
	}
	return a
}

// hasText: by P20.5, field by field.
func hasText(a api.Act) bool {
	if a.Kind < 1 || a.Kind > 12 {
		return false
	}
	fits := func(n int) bool { return n >= -1<<40 && n <= 1<<40 }
	wanted := wantedBy[strings.Fields("? problem log solve try check trim drop change show holds all core")[a.Kind]]
	single := strings.HasPrefix(wanted, "n") && wanted != "n*"
	return (a.N == 0 || single && fits(a.N)) && (a.Text == "" || strings.HasSuffix(wanted, "t")) && (len(a.List) == 0 || strings.HasSuffix(wanted, "*")) && !slices.ContainsFunc(a.List, func(n int) bool { return !fits(n) })
}

func TestWhichActsHaveAText(t *testing.T) { // P20.5: against a telling field by field
	s := newSource(27)
	seen := map[bool]int{}
	for range 10000 {
		l := some(s.Intn(5), s.strange)
		at := slices.IndexFunc(l, func(a api.Act) bool { return !hasText(a) })
		seen[at >= 0]++
		if at >= 0 {
			refuses(t, at+1, l...)
			continue
		}
		prints(t, written(l...), l...)
		reads(t, written(l...), l...)
	}
	if seen[true] < 1000 || seen[false] < 1000 {
		t.Errorf("%v: too few to tell", seen)
	}
}

func TestFirstPartsTellFirstParts(t *testing.T) { // P20.9
	s := newSource(28)
	for range 120 {
		l := s.session()
		whole, err := script.Play(written(l...))
		lines := strings.SplitAfter(whole, "\n")
		if err != nil || len(lines) != len(l)+1 {
			t.Fatalf("%q: %q, %v", written(l...), whole, err)
		}
		for n := range len(l) + 1 {
			if part, err := script.Play(written(l[:n]...)); err != nil || part != strings.Join(lines[:n], "") {
				t.Fatalf("the first %d of %q: %q, %v; all of them: %q", n, written(l...), part, err, whole)
			}
		}
	}
}

func TestCheckTellsTheSame(t *testing.T) { // P20.9: behind a solve, an all, a trim; and no try is unproved
	s := newSource(29)
	seen := map[string]int{}
	for range 250 {
		var acts []string
		for range 3 {
			acts = append(acts, say(one(s, "solve", "all"), some(s.Intn(4), s.whole)), "check", say("try", s.Intn(40), some(s.Intn(4), s.whole)), "check", "trim", "check", "trim", "check")
		}
		problem := s.problem()
		told, err := script.Play(session(problem, acts...))
		lines := strings.Split(told, "\n")[1:]
		if err != nil || len(lines) != len(acts)+1 {
			t.Fatalf("%q: %q, %v", problem, told, err)
		}
		if strings.HasPrefix(lines[0], "fault") {
			continue
		}
		for i := 0; i < len(acts); i += 8 {
			made := lines[i]
			seen[strings.Fields(made)[0]]++
			if lines[i+1] != made || !strings.HasSuffix(lines[i+2], " proved") || lines[i+3] != made || lines[i+4] != "trimmed" || lines[i+5] != made || lines[i+6] != "trimmed" || lines[i+7] != made {
				t.Fatalf("%q: %q", problem, lines[i:i+8])
			}
		}
	}
	for _, w := range []string{"unsat", "sat", "best", "all"} {
		if seen[w] < 20 {
			t.Errorf("%v: too few to tell", seen)
		}
	}
}

func TestTrimOfGivenLogs(t *testing.T) { // P20.9: a given log that check takes, and its trimmed one
	s := newSource(30)
	taken := 0
	for range 600 {
		problem := s.problem()
		told, err := script.Play(session(problem, "log "+text(s.log(problem)), "check", "trim", "check"))
		lines := strings.Split(told, "\n")
		if err != nil || len(lines) != 6 {
			t.Fatalf("%q: %q, %v", problem, told, err)
		}
		if faulty := strings.HasPrefix(lines[2], "fault"); faulty && lines[3] != lines[2] || !faulty && lines[3] != "trimmed" || lines[4] != lines[2] {
			t.Fatalf("%q: %q", problem, told)
		}
		if lines[3] == "trimmed" {
			taken++
		}
	}
	if taken < 100 {
		t.Errorf("%d: too few to tell", taken)
	}
}

func TestMemory(t *testing.T) { // rule 3: what is handed in stays, spare room too; answers share nothing
	s := newSource(31)
	for range 500 {
		l := append(some(1+s.Intn(4), s.act), api.Act{Kind: 99}, api.Act{Kind: 99})
		for i := range l {
			l[i].List = append(l[i].List, 99, 99)[:len(l[i].List)]
		}
		room := func() string {
			out := ""
			for _, a := range l {
				out += fmt.Sprint(a.Kind, a.N, a.Text, a.List, a.List[:len(a.List)+2])
			}
			return out
		}
		ahead := room()
		out, err := script.Print(l[:len(l)-2])
		if err != nil || room() != ahead {
			t.Fatalf("%v; %s, and was %s", err, room(), ahead)
		}
		a, _ := script.Parse(out)
		b, _ := script.Parse(out)
		for i := range a {
			list := a[i].List[:cap(a[i].List)]
			for k := range list {
				list[k] = 77
			}
			if next := min(i+1, len(a)-1); next > i && !alike(a[next], b[next]) {
				t.Fatalf("%+v, and was %+v", a[next], b[next])
			}
		}
		_ = append(a[:0], api.Act{Kind: 77})
		again, _ := script.Parse(out)
		if !slices.EqualFunc(b, l[:len(l)-2], alike) || !slices.EqualFunc(again, b, alike) {
			t.Fatalf("%+v, want %+v", b, l)
		}
	}
}

func TestNothingIsKept(t *testing.T) { // rule 6: a session begins anew, whatever was played ahead of it
	s := newSource(32)
	var all []string
	var told []string
	for range 60 {
		all = append(all, written(s.session()...))
		line, _ := script.Play(all[len(all)-1])
		told = append(told, line)
	}
	for i := len(all) - 1; i >= 0; i-- {
		if again, err := script.Play(all[i]); err != nil || again != told[i] {
			t.Fatalf("%q: %q, %v; and was %q", all[i], again, err, told[i])
		}
	}
}
