package text_test

import (
	"slices"
	"strings"
	"testing"

	"hallmark/api"
	"hallmark/model"
	"hallmark/text"
)

// spaced writes lines with blanks, tabs, empty lines and remarks wherever they may be.
func (s source) spaced(lines [][]string) string {
	gap := func(least int) string {
		out := ""
		for len(out) < least || s.Intn(3) == 0 {
			out += string(" \t"[s.Intn(2)])
		}
		return out
	}
	out := ""
	for i, words := range lines {
		for s.Intn(4) == 0 {
			out += gap(0) + []string{"", "#", "# var x", "#var \xff\r"}[s.Intn(4)] + "\n"
		}
		if i > 0 || s.Intn(2) == 0 {
			out += gap(0)
		}
		for j, w := range words {
			if j > 0 {
				out += gap(1)
			}
			out += w
		}
		out += gap(0)
		if i+1 < len(lines) || s.Intn(2) == 0 {
			out += "\n"
		}
	}
	return out
}

// odd: a word from anywhere.
func (s source) odd(lines [][]string) string {
	words := []string{"0", "-0", "01", "1", "-1", "63", "64", "1000000", "1000001", "-1000001", "1000000000", "1000000001", "-1000000001", "99999999999999999999", "+1", "-", "1.0",
		"<=", "=", ">=", "<", ":", "::", "var", "lin", "table", "minimize", "#", "#x", "9a", "x", "zz", strings.Repeat("n", 16), strings.Repeat("n", 17), "\r", "é", "\xff", "\x00", "\v"}
	if s.Intn(2) == 0 {
		line := lines[s.Intn(len(lines))]
		return line[s.Intn(len(line))]
	}
	return words[s.Intn(len(words))]
}

// spoiled: the lines with a few words or lines changed, put in, left out, moved.
func (s source) spoiled(lines [][]string) [][]string {
	out := slices.Clone(lines)
	for range 1 + s.Intn(2) {
		i := s.Intn(len(out))
		words := slices.Clone(out[i])
		j := s.Intn(len(words))
		switch s.Intn(9) {
		case 0, 1, 2:
			words[j] = s.odd(lines)
		case 3, 4:
			words = slices.Insert(words, j+s.Intn(2), s.odd(lines))
		case 5:
			words = slices.Delete(words, j, j+1)
		case 6:
			words = words[:j+1]
		case 7:
			k := s.Intn(len(out))
			out[i], out[k] = out[k], out[i]
			continue
		case 8:
			out = slices.Insert(out, s.Intn(len(out)+1), out[s.Intn(len(out))])
			continue
		}
		if len(words) == 0 {
			words = []string{"#"}
		}
		out[i] = words
	}
	return out
}

func TestFaultsByPlaces(t *testing.T) { // P5.2: against a reading by places, of right texts and of such with something spoiled
	s := newSource()
	seen := map[api.Errno]int{}
	for range 10000 {
		lines := written(s.problem())
		if s.Intn(10) > 0 {
			lines = s.spoiled(lines)
		}
		in := s.spaced(lines)
		want := expected(in)
		if got := faultOf(in); got != want {
			t.Fatalf("%q: %v, want %v", in, got, want)
		}
		seen[want.Err]++
	}
	for _, e := range []api.Errno{api.OK, api.ErrTextWord, api.ErrTextShort, api.ErrTextNumber, api.ErrTextName, api.ErrTextTwice, api.ErrTextUnknown, api.ErrTextRest, api.ErrTextGoal, api.ErrModelVars, api.ErrModelBounds, api.ErrModelCoef, api.ErrModelNumber, api.ErrModelMany} {
		if seen[e] < 5 {
			t.Errorf("error %d only %d times: too few to tell", e, seen[e])
		}
	}
}

func TestWordByWord(t *testing.T) { // P5.2: a line's fault hangs on the words up to it alone
	s := newSource()
	asked := 0
	for range 3000 {
		m := s.problem()
		m.HasGoal, m.Goal = false, nil
		head := joined(written(m))
		var line []string
		if s.Intn(2) == 0 {
			m.Vars = append(slices.Clone(m.Vars), s.variable(40))
		} else {
			m.Cons = append(slices.Clone(m.Cons), s.con(len(m.Vars)))
		}
		all := written(m)
		for _, words := range all {
			if !strings.Contains("\n"+head, "\n"+strings.Join(words, " ")+"\n") {
				line = words
			}
		}
		if line == nil {
			continue
		}
		line = s.spoiled([][]string{line})[0]
		at := api.Fault{}
		for n := 1; n <= len(line); n++ {
			got := faultOf(head + strings.Join(line[:n], " "))
			if at != (api.Fault{}) && got != at {
				t.Fatalf("%q behind %q: %v, and with fewer words %v", line[:n], head, got, at)
			}
			if got.Err != api.OK && got.Err != api.ErrTextShort {
				at = got
				asked++
			}
		}
	}
	if asked < 1000 {
		t.Errorf("%d faults: too few to tell", asked)
	}
}

func TestWhatIsReadIsRight(t *testing.T) { // P5.4: right, and the same for the same words
	s := newSource()
	right := 0
	for range 5000 {
		lines := written(s.problem())
		if s.Intn(2) == 0 {
			lines = s.spoiled(lines)
		}
		a, err := text.Parse(s.spaced(lines))
		b, other := text.Parse(joined(lines))
		if (err == nil) != (other == nil) || !model.Same(a, b) {
			t.Fatalf("%q: %+v, %v and with other blanks %+v, %v", lines, b, other, a, err)
		}
		if err != nil {
			continue
		}
		right++
		if at, e := model.Check(a); e != api.OK {
			t.Fatalf("%q: not right at %d: %d", lines, at, e)
		}
	}
	if right < 2000 {
		t.Errorf("%d right ones: too few to tell", right)
	}
}

func TestThereAndBack(t *testing.T) { // P5.4
	s := newSource()
	for range 2000 {
		m := s.problem()
		printed, e := text.Print(m)
		if e != api.OK {
			t.Fatalf("Print(%+v): %d", m, e)
		}
		says(t, printed, m)
		says(t, s.spaced(written(m)), m)
		again, _ := text.Parse(printed)
		prints(t, again, printed)
	}
}

func TestFaultsStandInOrder(t *testing.T) { // P5.5
	s := newSource()
	asked := 0
	for range 4000 {
		in := s.spaced(s.spoiled(written(s.problem())))
		f := faultOf(in)
		if f.Err == api.OK || f.Err == api.ErrTextEmpty {
			continue
		}
		asked++
		cut := strings.Join(strings.Split(in, "\n")[:f.Line], "\n")
		for _, behind := range []string{"", "\n", "\nvar x 0", "\n\xff\n\n#", "\n" + in, "\n" + joined(written(s.problem()))} {
			if got := faultOf(cut + behind); got != f && len(cut+behind) <= api.MaxModel {
				t.Fatalf("%q: %v, cut, with %q behind it: %v", in, f, behind, got)
			}
		}
		fails(t, cut+"\n"+strings.Repeat(" ", api.MaxModel), 1, api.ErrTextLong)
	}
	if asked < 2000 {
		t.Errorf("%d faults: too few to tell", asked)
	}
}

// FuzzParse: every text ends in a problem or in the fault that P5.2 says.
func FuzzParse(f *testing.F) { // P5.2, P5.4, rule 1
	for _, s := range []string{"", "\n", "var x 0 3\nvar y -1 2\nlin <= 4 2 x -1 y\nminimize 3 x", "var x 0 3\ntable x x : 1 2 : 3 4\ncount = 1 2 x", "var x 0 3\nreif x <= 1 1 x\nelement x x 1\t2\nmax x x", "\xff\x00var", "#\nne x y 1"} {
		f.Add(s)
	}
	f.Fuzz(func(t *testing.T, s string) {
		if got, want := faultOf(s), expected(s); got != want {
			t.Fatalf("%q: %v, want %v", s, got, want)
		}
		m, err := text.Parse(s)
		if err != nil {
			return
		}
		printed, e := text.Print(m)
		if e == api.ErrTextLong {
			return
		}
		if again, err := text.Parse(printed); e != api.OK || err != nil || !model.Same(again, m) {
			t.Fatalf("%q: printed %q, %d, and read %+v, %v", s, printed, e, again, err)
		}
	})
}

func TestBytesFromAnywhere(t *testing.T) { // rule 1: all bytes
	s := newSource()
	for range 20000 {
		const some = "var x y 0 1 -2 lin <= = : # minimize table alldiff \n\n\t \r\x00\xff\xc3"
		in := ""
		for range s.Intn(40) {
			in += string(some[s.Intn(len(some))])
		}
		if got, want := faultOf(in), expected(in); got != want {
			t.Fatalf("%q: %v, want %v", in, got, want)
		}
	}
}
