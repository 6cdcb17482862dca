package number_test

import (
	"slices"
	"testing"

	"hallmark/api"
	"hallmark/encode"
	"hallmark/number"
	"hallmark/order"
)

// literal: what layer 6 answers, as this layer does.
func literal(n, what int) (int, bool) { return n, what == api.Lit }

// agrees asks that a problem's numbers are layer 6's and layer 7's.
func agrees(t *testing.T, s source, m api.Model) {
	t.Helper()
	n := number.New(m)
	o, _ := order.New(m)
	rows, e := encode.Rows(m)
	if e != api.OK || n.Count() != o.Count() || n.Rows() != len(rows) {
		t.Fatalf("%+v: %d numbers, %d rows; want %d, %d", m, n.Count(), n.Rows(), o.Count(), len(rows))
	}
	same := func(name string, a, b int, got int, ok bool, want int, is bool) {
		t.Helper()
		if got != want || ok != is {
			t.Fatalf("%+v: %s(%d, %d): %d, %v; want %d, %v", m, name, a, b, got, ok, want, is)
		}
	}
	for x := -1; x <= len(m.Vars); x++ {
		v := m.Vars[max(0, min(x, len(m.Vars)-1))]
		for k := v.Lo - 1; k <= v.Hi+2; k++ {
			got, ok := n.AtLeast(x, k)
			want, is := literal(o.AtLeast(x, k))
			same("AtLeast", x, k, got, ok, want, is)
			got, ok = n.Is(x, k)
			want, is = literal(o.Is(x, k))
			same("Is", x, k, got, ok, want, is)
		}
	}
	for c := -1; c <= len(m.Cons); c++ {
		for r := -1; r <= api.MaxTerms; r++ {
			got, ok := n.Pick(c, r)
			want, is := literal(o.Pick(c, r))
			same("Pick", c, r, got, ok, want, is)
		}
	}
	for range 3 {
		values := s.picked(m)
		set, _ := o.Assignment(values)
		lits := n.Solution(values)
		if len(lits) != len(set) {
			t.Fatalf("%+v: Solution(%v): %v", m, values, lits)
		}
		for i, is := range set {
			if want := map[bool]int{true: i + 1, false: -i - 1}[is]; lits[i] != want {
				t.Fatalf("%+v: Solution(%v): %d at %d", m, values, lits[i], i)
			}
		}
	}
}

func TestTwoNumberings(t *testing.T) { // P22.7, P15.1, P15.4
	for _, small := range []bool{true, false} {
		s := newSource(small)
		var kinds [api.Count + 1]int
		for range 1200 {
			m := s.problem(t)
			agrees(t, s, m)
			for _, c := range m.Cons {
				kinds[c.Kind]++
			}
		}
		if slices.Min(kinds[api.Lin:]) < 100 {
			t.Errorf("too few to tell: %v", kinds)
		}
	}
}

func TestTwoNumberingsOfAlone(t *testing.T) { // P22.7, P15.2
	told := 0
	for _, small := range []bool{true, false} {
		s := newSource(small)
		for range 600 {
			m := s.problem(t)
			n := number.New(m)
			for c := -1; c <= len(m.Cons); c++ {
				v := m.Vars[s.Intn(len(m.Vars))]
				for k := v.Lo - 1; k <= min(v.Hi+1, v.Lo+8); k++ {
					got, ok := n.Alone(c, k)
					want, is := encode.Alone(m, c, k)
					if got != want || ok != is {
						t.Fatalf("%+v: Alone(%d, %d): %d, %v; want %d, %v", m, c, k, got, ok, want, is)
					}
					if ok {
						told++
						if encode.Owner(m, got) != c {
							t.Fatalf("%+v: Alone(%d, %d): %d isn't its own", m, c, k, got)
						}
					}
				}
			}
		}
	}
	if told < 300 {
		t.Errorf("too few to tell: %d", told)
	}
}

func told(c api.Cut, value int) bool {
	switch c.Kind {
	case api.AtLeast:
		return value >= c.V
	case api.AtMost:
		return value <= c.V
	}
	return value != c.V
}

func TestFactIsWhatACutTells(t *testing.T) { // P15.3: one literal is true of a value just if the cut leaves it
	s := newSource(true)
	for range 500 {
		m := s.problem(t)
		n := number.New(m)
		for x, v := range m.Vars {
			for kind := api.AtLeast; kind <= api.Not; kind++ {
				for k := v.Lo - 2; k <= v.Hi+2; k++ {
					c := api.Cut{Kind: kind, X: x, V: k}
					lits, ok := n.Fact(c)
					values := s.values(m.Vars)
					for values[x] = v.Lo; values[x] <= v.Hi; values[x]++ {
						whole := n.Solution(values)
						is := !ok || slices.ContainsFunc(lits, func(l int) bool { return slices.Contains(whole, l) })
						if is != told(c, values[x]) {
							t.Fatalf("%+v: Fact(%+v): %v, %v of %d", m, c, lits, ok, values[x])
						}
					}
				}
			}
		}
	}
}
