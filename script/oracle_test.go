package script_test

import (
	"regexp"
	"slices"
	"strconv"
	"strings"
	"testing"

	"hallmark/api"
	"hallmark/script"
)

// What a line begins with, by P20.1 to P20.3; a lone quote is a quoted text that isn't right.
var (
	nothing  = regexp.MustCompile(`^[ \t]*(#|$)`)
	right    = regexp.MustCompile(`^[ \t]*"(([ !#-\[\]-~]|\\["\\]|\\x[0-9a-f][0-9a-f])*)"`)
	lone     = regexp.MustCompile(`^[ \t]*"`)
	words    = regexp.MustCompile(`^[ \t]*([^ \t#"]+)`)
	numbers  = regexp.MustCompile(`^(0|-?[1-9][0-9]{0,12})$`)
	escapes  = regexp.MustCompile(`\\(["\\]|x..)`)
	wantedBy = map[string]string{"problem": "t", "log": "t", "solve": "n*", "try": "nn*", "check": "", "trim": "", "drop": "n", "change": "nt", "show": "", "all": "n*", "core": "", "holds": "n*"}
)

// cut splits a line into what stands in it, each with a letter ahead: a word
// (w), a number (n), a quoted text (t), or one that isn't right (b), with
// which it ends.
func cut(line string) []string {
	var out []string
	for !nothing.MatchString(line) {
		if at := right.FindStringSubmatch(line); at != nil {
			out = append(out, "t"+escapes.ReplaceAllStringFunc(at[1], func(e string) string {
				if e[1] != 'x' {
					return e[1:]
				}
				b, _ := strconv.ParseUint(e[2:], 16, 8)
				return string([]byte{byte(b)})
			}))
			line = line[len(at[0]):]
			continue
		}
		if lone.MatchString(line) {
			return append(out, "b")
		}
		at := words.FindStringSubmatch(line)
		n, _ := strconv.Atoi(at[1])
		if numbers.MatchString(at[1]) && max(n, -n) <= 1<<40 {
			out = append(out, "n"+at[1])
		} else {
			out = append(out, "w"+at[1])
		}
		line = line[len(at[0]):]
	}
	return out
}

// expectedAct tells a line's act, or its fault, from what stands in it.
func expectedAct(all []string) (api.Act, api.Errno) {
	kinds := strings.Fields("? problem log solve try check trim drop change show holds all core")
	a := api.Act{Kind: slices.Index(kinds, all[0][1:])}
	if all[0][0] != 'w' || a.Kind < 1 {
		return api.Act{}, api.ErrScriptWord
	}
	wanted := wantedBy[all[0][1:]]
	list := false
	for _, p := range append(all[1:], "-") {
		if wanted == "*" {
			wanted, list = "n*", true
		}
		want := (wanted + "-")[0]
		switch {
		case want == '-' && p == "-" || wanted == "n*" && p == "-":
			return a, api.OK
		case p == "-":
			return api.Act{}, api.ErrScriptEnd
		case p == "b" || want != p[0] && want != 'n':
			return api.Act{}, api.ErrScriptWord
		case want != p[0]:
			return api.Act{}, api.ErrScriptNumber
		case want == 't':
			a.Text = p[1:]
		case list || wanted == "n*":
			n, _ := strconv.Atoi(p[1:])
			a.List = append(a.List, n)
		default:
			a.N, _ = strconv.Atoi(p[1:])
		}
		wanted = wanted[1:]
	}
	return a, api.OK
}

// expected tells a session's acts, or the line of its first fault, and which it is.
func expected(s string) ([]api.Act, int, api.Errno) {
	if len(s) > 65536 {
		return nil, 1, api.ErrScriptLong
	}
	var out []api.Act
	for i, line := range strings.Split(s, "\n") {
		all := cut(line)
		if len(all) == 0 {
			continue
		}
		if len(out) == 400 {
			return nil, i + 1, api.ErrScriptMany
		}
		a, e := expectedAct(all)
		if e != api.OK {
			return nil, i + 1, e
		}
		out = append(out, a)
	}
	return out, 0, api.OK
}

// agrees asks that Parse tells what is expected.
func agrees(t *testing.T, s string) api.Errno {
	t.Helper()
	want, line, e := expected(s)
	l, err := script.Parse(s)
	f, _ := err.(*api.Fault)
	if e == api.OK && (err != nil || !slices.EqualFunc(l, want, alike)) ||
		e != api.OK && (f == nil || *f != (api.Fault{In: api.InScript, Line: line, Err: e}) || len(l) != 0) {
		t.Fatalf("Parse(%q) = %+v, %v; want %+v, %d at %d", s, l, err, want, e, line)
	}
	return e
}

// odd: something that may stand in a line, or may not.
func (s source) odd() string {
	return one(s, "0", "1", "-1", "-0", "01", "1099511627776", "1099511627777", "-1099511627777", "99999999999999999999", "x", "check", "log", "solve", "more", "\r", "\xff", "\\", "-", "+1",
		`"`, `"a"`, `""`, `"1"`, `"\"`, `"\x4"`, `"\x41"`, `"\xAA"`, "\"\t\"", `"\n"`, `"\\"`, "#", "\n", "\n\n")
}

// spoiled: pieces with a few changed, put in, left out.
func (s source) spoiled(words []string) []string {
	out := slices.Clone(words)
	for range 1 + s.Intn(2) {
		if len(out) == 0 {
			return []string{s.odd()}
		}
		i := s.Intn(len(out))
		switch s.Intn(6) {
		case 0, 1:
			out[i] = s.odd()
		case 2:
			out = slices.Insert(out, i+s.Intn(2), s.odd())
		case 3:
			out = slices.Delete(out, i, i+1)
		case 4:
			out = out[:i+1]
		case 5:
			at := s.Intn(len(out[i]) + 1)
			out[i] = out[i][:at] + one(s, "", "\"", "\\", "#", " ", "x", "0", "\n", "\t") + out[i][at:]
		}
	}
	return out
}

func TestParseByPlaces(t *testing.T) { // P20.1 to P20.4: against a reading by patterns
	s := newSource(20)
	seen := map[api.Errno]int{}
	for range 40000 {
		lines := some(1+s.Intn(3), func() string {
			words := pieces(s.act())
			if s.Intn(3) == 0 {
				words = s.spoiled(words)
			}
			return s.spaced(words)
		})
		seen[agrees(t, strings.Join(lines, "\n"))]++
	}
	for _, e := range []api.Errno{api.OK, api.ErrScriptWord, api.ErrScriptNumber, api.ErrScriptEnd} {
		if seen[e] < 1000 {
			t.Errorf("%v: too few to tell", seen)
		}
	}
}

func TestFewPieces(t *testing.T) { // P20.1 to P20.4: all lines of up to three pieces, behind each word
	all := []string{"", "0", "-7", "01", "x", "check", `"a"`, `"`, `"\x`, "#", "\t", "\n", "1099511627777"}
	for _, head := range strings.Fields("problem log solve try check trim drop change show holds all core go 1 \"a\" \"") {
		for _, a := range all {
			for _, b := range all {
				for _, c := range all {
					agrees(t, head+" "+a+" "+b+" "+c)
					agrees(t, head+a+b+c)
				}
			}
		}
	}
}

func TestManyActs(t *testing.T) { // P20.4: against the same, about the greatest number of acts
	s := newSource(21)
	seen := map[api.Errno]int{}
	for range 200 {
		lines := some(470+s.Intn(60), func() string {
			return one(s, "check", "show", "core", "trim", "drop 1", "solve #", "all 1", "log\"\"", "#", " ")
		})
		if s.Intn(3) == 0 {
			lines[s.Intn(len(lines))] = s.odd()
		}
		seen[agrees(t, strings.Join(lines, "\n"))]++
	}
	if seen[api.ErrScriptMany] < 20 || seen[api.OK] < 20 {
		t.Errorf("%v: too few to tell", seen)
	}
}

func FuzzParse(f *testing.F) { // P20.1 to P20.4, P20.8, rule 1
	for _, s := range []string{"", seven, "log \"\\x41\\\"\"#", "try 5 -1\n\nchange 1\"a\"", "drop -0", "solve 1 \"", "log \"a"} {
		f.Add(s)
	}
	f.Fuzz(func(t *testing.T, s string) {
		if agrees(t, s) != api.OK {
			return
		}
		l, _ := script.Parse(s)
		again, err := script.Print(l)
		if err != nil {
			if len(s)+3*len(l) <= api.MaxSession { // two blanks, and a line feed, may be laid that weren't there
				t.Fatalf("%q: %v", s, err)
			}
			return
		}
		reads(t, again, l...)
	})
}
