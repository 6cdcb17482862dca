package text_test

import (
	"strings"
	"testing"
	"unsafe"

	"hallmark/api"
	"hallmark/model"
	"hallmark/text"
)

func TestEachLine(t *testing.T) { // P5.1
	terms := []api.Term{{C: 2, X: 0}, {C: -1, X: 1}, {C: 3, X: 0}}
	for _, c := range []struct {
		line string
		con  api.Con
	}{
		{"lin <= 4 2 x -1 y 3 x", api.Con{Kind: api.Lin, Op: api.Le, K: 4, Terms: terms}},
		{"lin = -4 2 x -1 y 3 x", api.Con{Kind: api.Lin, Op: api.Eq, K: -4, Terms: terms}},
		{"lin >= 0 2 x -1 y 3 x", api.Con{Kind: api.Lin, Op: api.Ge, Terms: terms}},
		{"ne x y 1", api.Con{Kind: api.Ne, X: 0, Y: 1, K: 1}},
		{"ne y x -10", api.Con{Kind: api.Ne, X: 1, Y: 0, K: -10}},
		{"alldiff y x y", api.Con{Kind: api.AllDiff, Xs: []int{1, 0, 1}}},
		{"element y x 7 -8 0", api.Con{Kind: api.Element, X: 1, Y: 0, Table: []int{7, -8, 0}}},
		{"max y x", api.Con{Kind: api.Max, Y: 1, Xs: []int{0}}},
		{"min x x y", api.Con{Kind: api.Min, Y: 0, Xs: []int{0, 1}}},
		{"reif y <= -3 2 x -1 y 3 x", api.Con{Kind: api.Reif, X: 1, K: -3, Terms: terms}},
		{"table y : -1 : 2", api.Con{Kind: api.Table, Xs: []int{1}, Rows: [][]int{{-1}, {2}}}},
		{"table y x y : 1 2 3", api.Con{Kind: api.Table, Xs: []int{1, 0, 1}, Rows: [][]int{{1, 2, 3}}}},
		{"count <= 1 2 x", api.Con{Kind: api.Count, Op: api.Le, K: 1, V: 2, Xs: []int{0}}},
		{"count = 0 -2 y x", api.Con{Kind: api.Count, Op: api.Eq, V: -2, Xs: []int{1, 0}}},
		{"count >= 3 0 y y y", api.Con{Kind: api.Count, Op: api.Ge, K: 3, Xs: []int{1, 1, 1}}},
	} {
		says(t, "var x 0 3\nvar y -1 2\n"+c.line, two(c.con))
	}
	m := two()
	m.HasGoal, m.Goal = true, terms
	says(t, "var x 0 3\nvar y -1 2\nminimize 2 x -1 y 3 x", m)
}

func TestOrderOfLines(t *testing.T) { // P5.1: a goal and constraints ahead of a variable; each list in its own order
	m := two(api.Con{Kind: api.Ne, K: 1}, api.Con{Kind: api.AllDiff, Xs: []int{1}}, api.Con{Kind: api.Ne, K: 1})
	m.HasGoal, m.Goal = true, []api.Term{{C: 1}}
	says(t, "var x 0 3\nminimize 1 x\nne x x 1\nvar y -1 2\nalldiff y\nne x x 1", m)
	m.Vars[0], m.Vars[1] = m.Vars[1], m.Vars[0]
	m.Cons[1].Xs[0] = 0
	says(t, "var y -1 2\nvar x 0 3\nminimize 1 y\nne y y 1\nalldiff y\nne y y 1", m)
	fails(t, "var x 0 3\nalldiff y\nvar y -1 2", 2, api.ErrTextUnknown)
	fails(t, "ne x x 1\nvar x 0 3", 1, api.ErrTextUnknown)
}

func TestLinesAndWords(t *testing.T) { // P5.1
	m := two(api.Con{Kind: api.AllDiff, Xs: []int{0, 1}})
	for _, s := range []string{
		"var x 0 3\nvar y -1 2\nalldiff x y",
		"var x 0 3\nvar y -1 2\nalldiff x y\n",
		"\n\n \n\t\nvar x 0 3\n  \t \nvar y -1 2\n\nalldiff x y\n\n\n",
		" var x 0 3\n\tvar\ty\t-1\t2\n \t alldiff \t x\t y \t",
		"# var x 1 1\nvar x 0 3\n#\n \t#alldiff\nvar y -1 2\nalldiff x y\n## \xff\x00 #",
	} {
		says(t, s, m)
	}
	for _, s := range []string{"alldiff x y\r", "alldiff\vx", "alldiff x\x00", "alldiff x y#", "alldiff x #", "alldiff x\u00a0y", "alldiff x\fy", "alldiff x,y", "alldiff xy\x85"} {
		if f := faultOf("var x 0 3\nvar y -1 2\n" + s); f.Line != 3 || f.Err != api.ErrTextName && f.Err != api.ErrTextWord {
			t.Errorf("%q: %v", s, f)
		}
	}
	fails(t, "var x 0 3\r\nvar y -1 2", 1, api.ErrTextNumber)
	fails(t, "var x 0 3\rvar y -1 2", 1, api.ErrTextNumber)
	fails(t, "var x 0 3\n\r\n", 2, api.ErrTextWord)
	fails(t, "var x 0 3 # three", 1, api.ErrTextRest)
	fails(t, "var x 0 3\n\n#\n \nne x\n", 5, api.ErrTextShort)
}

func TestNumbers(t *testing.T) { // P5.1
	for word, want := range map[string]int{
		"0": 0, "1": 1, "-1": -1, "10": 10, "-10": -10, "907": 907, "1000000000": 1000000000, "-1000000000": -1000000000, "999999999": 999999999,
	} {
		says(t, "var x 0 3\nvar y -1 2\nne x y "+word, two(api.Con{Kind: api.Ne, X: 0, Y: 1, K: want}))
	}
	for _, word := range []string{"-0", "00", "01", "-01", "-", "--1", "+1", "+0", "1.0", "1e3", "1_000", "0x1", "1-", "a", "x", ":", "-x", "1x", "٣", "\xff", "1\x00", "00000000000000000001", "1000000001a", "-99999999999999999999z"} {
		fails(t, "var x 0 3\nvar y -1 2\nne x y "+word, 3, api.ErrTextNumber)
	}
	for _, word := range []string{"1000000001", "-1000000001", "10000000000", "9223372036854775807", "9223372036854775808", "-9223372036854775809", "18446744073709551616", "18446744073709551617", strings.Repeat("9", 60000), "-" + strings.Repeat("1", 60000)} {
		fails(t, "var x 0 3\nvar y -1 2\nne x y "+word, 3, api.ErrModelNumber)
	}
}

func TestNames(t *testing.T) { // P5.1
	for _, name := range []string{"x", "X", "_", "a1", "_9", "Zz_0", strings.Repeat("n", 16), "var", "lin", "ne", "minimize", "table"} {
		m := api.Model{Vars: []api.Var{{Name: name, Hi: 1}}, Cons: []api.Con{{Kind: api.AllDiff, Xs: []int{0}}}}
		says(t, "var "+name+" 0 1\nalldiff "+name, m)
	}
	for _, name := range []string{"9", "1x", "-", ":", "<=", "=", "x-", "x.y", "é", "x\xff", "\x00", "#", strings.Repeat("n", 17), strings.Repeat("n", 60000)} {
		fails(t, "var "+name+" 0 1", 1, api.ErrTextName)
		fails(t, "var x 0 1\nalldiff "+name, 2, api.ErrTextName)
	}
	fails(t, "var x 0 1\nalldiff X", 2, api.ErrTextUnknown)
	fails(t, "var x 0 1\nalldiff xx", 2, api.ErrTextUnknown)
	fails(t, "var xx 0 1\nalldiff x", 2, api.ErrTextUnknown)
}

// lists tells all memory of a problem's lists of numbers and of terms, the spare room among it.
func lists(m api.Model) (numbers [][]int, terms [][]api.Term) {
	for _, c := range m.Cons {
		numbers = append(numbers, c.Xs[:cap(c.Xs)], c.Table[:cap(c.Table)])
		terms = append(terms, c.Terms[:cap(c.Terms)])
		for _, row := range c.Rows {
			numbers = append(numbers, row[:cap(row)])
		}
	}
	return numbers, append(terms, m.Goal[:cap(m.Goal)])
}

func TestAnswersAreApart(t *testing.T) { // rule 3: no two lists share memory, and none has the text's
	s := newSource()
	for range 100 {
		m := s.problem()
		in := joined(written(m))
		a, _ := text.Parse(in)
		b, err := text.Parse(in)
		if err != nil {
			t.Fatal(err)
		}
		seen := map[*int]bool{}
		seenTerms := map[*api.Term]bool{}
		for _, p := range []api.Model{a, b} {
			numbers, terms := lists(p)
			for _, list := range numbers {
				for i := range list {
					if seen[&list[i]] {
						t.Fatal("two lists of numbers share memory")
					}
					seen[&list[i]] = true
				}
			}
			for _, list := range terms {
				for i := range list {
					if seenTerms[&list[i]] {
						t.Fatal("two lists of terms share memory")
					}
					seenTerms[&list[i]] = true
				}
			}
		}
		from := uintptr(unsafe.Pointer(unsafe.StringData(in)))
		for _, v := range a.Vars {
			if at := uintptr(unsafe.Pointer(unsafe.StringData(v.Name))); at >= from && at < from+uintptr(len(in)) {
				t.Fatal("a name lies in the text")
			}
		}
		a.Vars[0].Name = "other"
		a.Cons = append(a.Cons[:0], api.Con{})
		if !model.Same(b, m) {
			t.Fatal("one answer is changed by another one")
		}
	}
}
