package model_test

import (
	"math"
	"slices"
	"testing"

	"hallmark/api"
	"hallmark/model"
)

func TestHoldsByWords(t *testing.T) { // P4.4
	s := newSource()
	yes, no := [10]int{}, [10]int{}
	for range 4000 {
		vars := 1 + s.Intn(4)
		c := s.con(vars)
		for range 12 {
			values := s.numbers(vars)
			want := holds(c, values)
			if got := model.Holds(c, values); got != want {
				t.Fatalf("Holds(%+v, %v) = %v", c, values, got)
			}
			if want {
				yes[c.Kind]++
			} else {
				no[c.Kind]++
			}
		}
	}
	for kind := api.Lin; kind <= api.Count; kind++ {
		if min(yes[kind], no[kind]) < 50 {
			t.Errorf("kind %d: %d hold, %d don't: too few to tell", kind, yes[kind], no[kind])
		}
	}
}

func TestHoldsAtTheEnds(t *testing.T) { // P4.4: values, numbers and coefficients as great as can be
	const most = api.MaxValue
	term := func(c int) []api.Term { return many(64, api.Term{C: c}) }
	for i, c := range []struct {
		c      api.Con
		values []int
		want   bool
	}{
		{api.Con{Kind: api.Lin, Op: api.Le, K: most, Terms: term(api.MaxCoef)}, []int{most}, false},
		{api.Con{Kind: api.Lin, Op: api.Ge, K: most, Terms: term(api.MaxCoef)}, []int{most}, true},
		{api.Con{Kind: api.Lin, Op: api.Ge, K: -most, Terms: term(-api.MaxCoef)}, []int{most}, false},
		{api.Con{Kind: api.Lin, Op: api.Le, K: -most, Terms: term(api.MaxCoef)}, []int{-most}, true},
		{api.Con{Kind: api.Reif, X: 1, K: most, Terms: term(api.MaxCoef)}, []int{most, 0}, true},
		{api.Con{Kind: api.Reif, X: 1, K: most, Terms: term(-api.MaxCoef)}, []int{most, 1}, true},
		{api.Con{Kind: api.Ne, X: 0, Y: 1, K: most}, []int{most, most}, true},
		{api.Con{Kind: api.Ne, X: 0, Y: 1, K: -most}, []int{0, most}, false},
		{api.Con{Kind: api.Max, Y: 0, Xs: []int{1}}, []int{-most, -most}, true},
		{api.Con{Kind: api.Min, Y: 0, Xs: []int{1, 2}}, []int{most, most, most}, true},
		{api.Con{Kind: api.Element, X: 0, Y: 1, Table: many(64, most)}, []int{63, most}, true},
		{api.Con{Kind: api.Element, X: 0, Y: 1, Table: many(64, most)}, []int{64, most}, false},
		{api.Con{Kind: api.Element, X: 0, Y: 1, Table: many(64, most)}, []int{-1, most}, false},
		{api.Con{Kind: api.Element, X: 0, Y: 1, Table: many(64, most)}, []int{most, most}, false},
		{api.Con{Kind: api.Count, Op: api.Eq, K: 64, V: most, Xs: many(64, 0)}, []int{most}, true},
		{api.Con{Kind: api.Table, Xs: many(8, 0), Rows: [][]int{many(8, -most)}}, []int{-most}, true},
	} {
		if got := model.Holds(c.c, c.values); got != c.want {
			t.Errorf("%d: Holds(%+v, %v) = %v", i, c.c, c.values, got)
		}
	}
}

func TestHoldsOfNoValues(t *testing.T) { // P4.4: what couldn't stand there, and values that can't be
	const most = api.MaxValue
	for kind, c := range one() {
		for _, values := range [][]int{nil, {}, {2}, {0}, {most + 1, most + 1}, {-most - 1, -most - 1}, {math.MinInt, math.MinInt}, {math.MaxInt, math.MaxInt}} {
			if model.Holds(c, values) {
				t.Errorf("kind %d holds of %v", kind, values)
			}
		}
	}
	c := api.Con{Kind: api.AllDiff, Xs: []int{0, 39}}
	values := many(40, 7)
	values[39] = 8
	if !model.Holds(c, values) || model.Holds(c, values[:39]) {
		t.Error("all different over 40 values, over 39")
	}
	for _, v := range []int{most, -most, most + 1, -most - 1} {
		values[20] = v // none of its variables
		if got := model.Holds(c, values); got != (v == most || v == -most) {
			t.Errorf("Holds beside %d: %v", v, got)
		}
	}
}

func TestSolution(t *testing.T) { // P4.5
	s := newSource()
	found := 0
	for range 500 {
		m := s.problem()
		all(m.Vars, func(values []int) {
			want := !slices.ContainsFunc(m.Cons, func(c api.Con) bool { return !holds(c, values) })
			if got := model.Solution(m, values); got != want {
				t.Fatalf("Solution(%+v, %v) = %v", m, values, got)
			}
			if want {
				found++
			}
		})
	}
	if found < 500 {
		t.Errorf("%d solutions in all: too few to tell", found)
	}
}

func TestNoSolution(t *testing.T) { // P4.5: outside the bounds, too few or too many, of what isn't right
	m := two()
	for _, values := range [][]int{nil, {0}, {0, 0, 0}, {-1, 0}, {4, 0}, {0, -2}, {0, 3}, {math.MinInt, 0}, {0, math.MaxInt}} {
		if model.Solution(m, values) {
			t.Errorf("%v is a solution", values)
		}
	}
	for _, values := range [][]int{{0, -1}, {3, 2}} {
		if !model.Solution(m, values) {
			t.Errorf("%v is no solution", values)
		}
	}
	if model.Solution(api.Model{}, nil) {
		t.Error("a problem without variables has a solution")
	}
	m.Goal = terms(1)
	if model.Solution(m, []int{0, 0}) {
		t.Error("a problem whose goal isn't right has a solution")
	}
	m = two()
	m.Vars[1].Name = "x"
	if model.Solution(m, []int{0, 0}) {
		t.Error("a problem with a name twice has a solution")
	}
}
