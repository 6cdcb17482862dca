package number_test

import (
	"math"
	"slices"
	"testing"

	"hallmark/api"
	"hallmark/number"
)

// beyond: numbers that tell nothing, near the ends and far from them.
func beyond(from, to int) []int {
	return []int{from - 1, from - 2, from - 70, to + 1, to + 2, to + 70, math.MinInt, math.MinInt + 1, math.MaxInt - 1, math.MaxInt, math.MinInt32, math.MaxInt32, 1 << 32, -1 << 32}
}

func TestNumbersAsListed(t *testing.T) { // P15.1
	s := newSource(false)
	var kinds [3]int
	for range 2000 {
		m := s.problem(t)
		n, list := number.New(m), listed(m)
		if n.Count() != len(list) {
			t.Fatalf("%+v: Count %d, want %d", m, n.Count(), len(list))
		}
		for i, what := range list {
			ask, a, b, kind := n.AtLeast, what.X, what.V, 0
			switch {
			case what.Is:
				ask, kind = n.Is, 1
			case what.Pick:
				ask, a, b, kind = n.Pick, what.Con, what.Row, 2
			}
			if got, ok := ask(a, b); got != i+1 || !ok {
				t.Fatalf("%+v: %+v: %d, %v; want %d", m, what, got, ok, i+1)
			}
			kinds[kind]++
		}
	}
	if slices.Min(kinds[:]) < 1000 {
		t.Errorf("too few to tell: %v", kinds)
	}
}

func TestNothingElseHasANumber(t *testing.T) { // P15.1
	s := newSource(false)
	for range 500 {
		m := s.problem(t)
		n := number.New(m)
		none := func(name string, f func(a, b int) (int, bool), a, b int) {
			if got, ok := f(a, b); got != 0 || ok {
				t.Fatalf("%+v: %s(%d, %d): %d, %v", m, name, a, b, got, ok)
			}
		}
		for x, v := range m.Vars {
			none("AtLeast", n.AtLeast, x, v.Lo)
			for _, k := range beyond(v.Lo, v.Hi) {
				none("AtLeast", n.AtLeast, x, k)
				none("Is", n.Is, x, k)
			}
			for k := v.Lo; k <= v.Hi && !stands(m, x); k++ {
				none("Is", n.Is, x, k)
			}
		}
		for _, x := range beyond(0, len(m.Vars)-1) {
			for _, k := range []int{0, 1, m.Vars[0].Lo, m.Vars[0].Hi, math.MaxInt, math.MinInt} {
				none("AtLeast", n.AtLeast, x, k)
				none("Is", n.Is, x, k)
			}
		}
		for c, con := range m.Cons {
			for _, r := range beyond(0, len(con.Rows)-1) {
				none("Pick", n.Pick, c, r)
			}
		}
		for _, c := range beyond(0, len(m.Cons)-1) {
			none("Pick", n.Pick, c, 0)
			none("Alone", n.Alone, c, m.Vars[0].Lo)
			none("Alone", n.Alone, c, 0)
		}
	}
}

func TestCountAndRows(t *testing.T) { // P15.1
	xs, terms := []int{0, 1}, []api.Term{{C: 1, X: 0}, {C: 1, X: 1}}
	for _, e := range []struct {
		c           api.Con
		count, rows int
	}{
		{api.Con{Kind: api.Lin, Op: api.Le, Terms: terms}, 6, 1},
		{api.Con{Kind: api.Lin, Op: api.Ge, Terms: terms}, 6, 1},
		{api.Con{Kind: api.Lin, Op: api.Eq, Terms: terms}, 6, 2},
		{api.Con{Kind: api.Ne, Y: 1}, 6, 3},
		{api.Con{Kind: api.Ne, Y: 1, K: 1}, 6, 4},
		{api.Con{Kind: api.Ne, Y: 1, K: 5}, 6, 0},
		{api.Con{Kind: api.Element, Y: 1, Table: []int{2, 0}}, 6, 1 + 1 + 2},
		{api.Con{Kind: api.Element, X: 1, Y: 0, Table: []int{0, 3, 1, 7}}, 6, 1 + 1 + 1 + 2},
		{api.Con{Kind: api.Max, Y: 1, Xs: xs}, 6, 4 + 3 + 2},
		{api.Con{Kind: api.Min, Y: 1, Xs: xs}, 6, 2 + 3 + 3},
		{api.Con{Kind: api.Reif, X: 0, Terms: terms}, 6, 3},
		{api.Con{Kind: api.Reif, X: 1, Terms: terms}, 6, 4},
		{api.Con{Kind: api.Table, Xs: xs, Rows: [][]int{{0, 1}, {3, -1}}}, 8, 1 + 3 + 2},
		{api.Con{Kind: api.AllDiff, Xs: xs}, 14, 20 + 3},
		{api.Con{Kind: api.AllDiff, Xs: []int{0}}, 10, 10},
		{api.Con{Kind: api.AllDiff, Xs: []int{1, 1}}, 10, 10 + 4},
		{api.Con{Kind: api.Count, Op: api.Le, Xs: xs}, 14, 20 + 1},
		{api.Con{Kind: api.Count, Op: api.Ge, Xs: xs, V: 9}, 14, 20 + 1},
		{api.Con{Kind: api.Count, Op: api.Eq, Xs: []int{1}}, 10, 10 + 2},
	} {
		n := number.New(two(e.c))
		if n.Count() != e.count || n.Rows() != 4+e.rows {
			t.Errorf("%+v: %d numbers, %d rows; want %d, %d", e.c, n.Count(), n.Rows(), e.count, 4+e.rows)
		}
	}
}

func TestAlone(t *testing.T) { // P15.2
	m := api.Model{
		Vars: []api.Var{{Name: "x", Hi: 3}, {Name: "y", Lo: 2, Hi: 5}, {Name: "z", Lo: 5, Hi: 6}, {Name: "w", Lo: -1, Hi: -1}},
		Cons: []api.Con{
			{Kind: api.Ne, X: 0, Y: 1},
			{Kind: api.AllDiff, Xs: []int{0, 1, 2}},
			{Kind: api.AllDiff, Xs: []int{3}},
			{Kind: api.Count, Op: api.Eq, Xs: []int{0, 1}, V: 2, K: 1},
			{Kind: api.AllDiff, Xs: []int{3, 1, 3}},
		},
	}
	n := number.New(m)
	// steps: 2 + 2 + 0 + 0; points: 10 + 10 + 4 + 1; Ne: 2
	const ahead = 4 + 25 + 2
	want := map[[2]int]int{{1, 2}: ahead + 1, {1, 3}: ahead + 2, {1, 5}: ahead + 3, {4, -1}: ahead + 3 + 2 + 1}
	for c := -1; c <= len(m.Cons); c++ {
		for v := -2; v <= 7; v++ {
			got, ok := n.Alone(c, v)
			if id := want[[2]int{c, v}]; got != id || ok != (id > 0) {
				t.Errorf("Alone(%d, %d): %d, %v; want %d", c, v, got, ok, id)
			}
		}
		for _, v := range []int{math.MinInt, math.MaxInt} {
			if got, ok := n.Alone(c, v); got != 0 || ok {
				t.Errorf("Alone(%d, %d): %d, %v", c, v, got, ok)
			}
		}
	}
	if n.Rows() != ahead+6 {
		t.Errorf("%d rows", n.Rows())
	}
}

func TestFactByWords(t *testing.T) { // P15.3
	s := newSource(false)
	var told, empty, none, two int
	for range 400 {
		m := s.problem(t)
		n := number.New(m)
		for x, v := range m.Vars[:min(len(m.Vars), 4)] {
			vs := append(beyond(v.Lo, v.Hi), v.Lo, v.Lo+1, v.Hi-1, v.Hi, s.Intn(v.Hi-v.Lo+1)+v.Lo)
			for _, k := range vs {
				for kind := -1; kind <= api.Not+1; kind++ {
					c := api.Cut{Kind: kind, X: x, V: k}
					got, ok := n.Fact(c)
					want, is := fact(m, c)
					if !slices.Equal(got, want) || ok != is {
						t.Fatalf("%+v: Fact(%+v): %v, %v; want %v, %v", m, c, got, ok, want, is)
					}
					switch {
					case !ok:
						none++
					case len(got) == 0:
						empty++
					case len(got) == 2:
						two++
					default:
						told++
					}
				}
			}
		}
	}
	if min(told, empty, none, two) < 500 {
		t.Errorf("too few to tell: %d, %d, %d, %d", told, empty, none, two)
	}
}

func TestFactOfNothing(t *testing.T) { // P15.3: no variable, no kind
	n := number.New(two())
	for _, c := range []api.Cut{
		{}, {X: 0, V: 1}, {Kind: -1, V: 1}, {Kind: api.Not + 1, V: 1}, {Kind: math.MaxInt, V: 1}, {Kind: math.MinInt, V: 1},
		{Kind: api.AtLeast, X: -1, V: 1}, {Kind: api.AtLeast, X: 2, V: 1}, {Kind: api.AtMost, X: 2, V: -1}, {Kind: api.Not, X: 2, V: 0},
		{Kind: api.AtMost, X: math.MinInt, V: -5}, {Kind: api.Not, X: math.MaxInt}, {Kind: api.AtLeast, X: math.MaxInt, V: 9},
	} {
		if got, ok := n.Fact(c); len(got) != 0 || ok {
			t.Errorf("Fact(%+v): %v, %v", c, got, ok)
		}
	}
}

func TestFactAtTheEnds(t *testing.T) { // P15.3: of y, -1 to 2, with the numbers 4, 5, 6
	n := number.New(two())
	for _, e := range []struct {
		kind, v int
		want    []int
		ok      bool
	}{
		{api.AtLeast, -1, nil, false}, {api.AtLeast, 0, []int{4}, true}, {api.AtLeast, 2, []int{6}, true}, {api.AtLeast, 3, nil, true},
		{api.AtLeast, math.MinInt, nil, false}, {api.AtLeast, math.MaxInt, nil, true},
		{api.AtMost, 2, nil, false}, {api.AtMost, 1, []int{-6}, true}, {api.AtMost, -1, []int{-4}, true}, {api.AtMost, -2, nil, true},
		{api.AtMost, math.MaxInt, nil, false}, {api.AtMost, math.MinInt, nil, true},
		{api.Not, -2, nil, false}, {api.Not, -1, []int{4}, true}, {api.Not, 0, []int{-4, 5}, true}, {api.Not, 2, []int{-6}, true}, {api.Not, 3, nil, false},
		{api.Not, math.MaxInt, nil, false}, {api.Not, math.MinInt, nil, false},
	} {
		if got, ok := n.Fact(api.Cut{Kind: e.kind, X: 1, V: e.v}); !slices.Equal(got, e.want) || ok != e.ok {
			t.Errorf("Fact of %+v: %v, %v", e, got, ok)
		}
	}
	one := number.New(api.Model{Vars: []api.Var{{Name: "x"}}})
	if got, ok := one.Fact(api.Cut{Kind: api.Not}); len(got) != 0 || !ok {
		t.Errorf("the only value: %v, %v", got, ok)
	}
}

func TestSolutionByWords(t *testing.T) { // P15.4
	s := newSource(false)
	picked := 0
	for range 1000 {
		m := s.problem(t)
		n, list := number.New(m), listed(m)
		for range 3 {
			values := s.picked(m)
			lits := n.Solution(values)
			if len(lits) != len(list) {
				t.Fatalf("%+v: Solution(%v): %v", m, values, lits)
			}
			for i, what := range list {
				want := i + 1
				if !holds(m, what, values) {
					want = -want
				} else if what.Pick {
					picked++
				}
				if lits[i] != want {
					t.Fatalf("%+v: Solution(%v): %d at %d", m, values, lits[i], i)
				}
			}
		}
	}
	if picked < 300 {
		t.Errorf("too few to tell: %d", picked)
	}
}

func TestSolutionOfWrongValues(t *testing.T) { // P15.4
	s := newSource(false)
	for range 300 {
		m := s.problem(t)
		n := number.New(m)
		none := func(values []int) {
			if lits := n.Solution(values); len(lits) != 0 {
				t.Fatalf("%+v: Solution(%v): %v", m, values, lits)
			}
		}
		values := s.values(m.Vars)
		none(nil)
		none(values[1:])
		none(append(slices.Clone(values), 0))
		none(append(slices.Clone(values), m.Vars[0].Lo))
		x := s.Intn(len(m.Vars))
		for _, v := range beyond(m.Vars[x].Lo, m.Vars[x].Hi) {
			wrong := slices.Clone(values)
			wrong[x] = v
			none(wrong)
		}
	}
}
