package model_test

import (
	"math"
	"testing"

	"hallmark/api"
	"hallmark/model"
)

func TestGoalByWords(t *testing.T) { // P4.6, P4.9
	s := newSource()
	for range 500 {
		m := s.problem()
		floor, ceil := model.Floor(m), model.Ceil(m)
		wantFloor, wantCeil, least, greatest := 0, 0, math.MaxInt, math.MinInt
		seen := make([]int, len(m.Vars))
		oneEach := true
		for _, g := range m.Goal {
			a, b := g.C*m.Vars[g.X].Lo, g.C*m.Vars[g.X].Hi
			wantFloor, wantCeil = wantFloor+min(a, b), wantCeil+max(a, b)
			seen[g.X]++
			oneEach = oneEach && seen[g.X] == 1
		}
		all(m.Vars, func(values []int) {
			want := 0
			for _, g := range m.Goal {
				want += g.C * values[g.X]
			}
			worth := model.Worth(m, values)
			if worth != want || worth < floor || worth > ceil {
				t.Fatalf("Worth(%+v, %v) = %d, want %d, from %d to %d", m, values, worth, want, floor, ceil)
			}
			least, greatest = min(least, worth), max(greatest, worth)
		})
		if floor != wantFloor || ceil != wantCeil || oneEach && (least != floor || greatest != ceil) {
			t.Fatalf("%+v: Floor %d, Ceil %d, want %d, %d; reached %d, %d", m, floor, ceil, wantFloor, wantCeil, least, greatest)
		}
	}
}

func TestGoalAtTheEnds(t *testing.T) { // P4.6
	const most, great = api.MaxValue, 64 * api.MaxCoef * api.MaxValue
	m := api.Model{Vars: []api.Var{{Name: "x", Lo: most - 1, Hi: most}, {Name: "y", Lo: -most, Hi: 1 - most}}}
	m = withGoal(m, many(64, api.Term{C: api.MaxCoef}))
	if got := model.Ceil(m); got != great {
		t.Errorf("Ceil %d", got)
	}
	if got := model.Worth(m, []int{-most, 0}); got != -great {
		t.Errorf("Worth outside the bounds %d", got)
	}
	m.Goal = many(64, api.Term{C: -api.MaxCoef})
	if got := model.Floor(m); got != -great {
		t.Errorf("Floor %d", got)
	}
	m.Goal = many(64, api.Term{C: -api.MaxCoef, X: 1})
	if got := model.Ceil(m); got != great {
		t.Errorf("Ceil of negative values %d", got)
	}
	for _, v := range []int{most + 1, -most - 1, math.MaxInt, math.MinInt} {
		if a, b := model.Worth(m, []int{v, 1}), model.Worth(m, []int{1, v}); a != 0 || b != 0 {
			t.Errorf("Worth beside %d: %d, %d", v, a, b)
		}
	}
	if a, b := model.Worth(m, []int{most, -1}), model.Worth(m, []int{-most, -1}); a != 64*api.MaxCoef || b != a {
		t.Errorf("Worth beside the greatest: %d, %d", a, b)
	}
}

func TestNoGoal(t *testing.T) { // P4.6: no goal, not right, too few or too many values
	zero := func(what string, m api.Model, values []int) {
		t.Helper()
		if got := model.Worth(m, values); got != 0 {
			t.Errorf("%s: Worth %d", what, got)
		}
	}
	ends := func(what string, m api.Model) {
		t.Helper()
		if a, b := model.Floor(m), model.Ceil(m); a != 0 || b != 0 {
			t.Errorf("%s: Floor %d, Ceil %d", what, a, b)
		}
		zero(what, m, []int{1, 2})
	}
	m := withGoal(two(), terms(3, -2))
	for _, values := range [][]int{nil, {1}, {1, 2, 3}} {
		zero("too few or too many", m, values)
	}
	ends("no goal", two())
	m.HasGoal = false
	ends("a goal that isn't set", m)
	ends("a constraint that isn't right", withGoal(two(api.Con{}), terms(3, -2)))
	ends("a goal that isn't right", withGoal(two(), terms(3, -2, 1)))
	ends("nothing", api.Model{})
	zero("nothing", api.Model{}, nil)
}

func TestProduct(t *testing.T) { // P4.7
	s := newSource()
	for range 500 {
		m := s.problem()
		want := 0
		all(m.Vars, func([]int) { want++ })
		for _, most := range []int{want - 1, want, want + 1, 0, -1, -want, math.MinInt, math.MaxInt} {
			n, ok := model.Product(m, most)
			if ok != (want <= most) || ok && n != want || !ok && n != 0 {
				t.Fatalf("Product(%+v, %d) = %d, %v, want %d", m, most, n, ok, want)
			}
		}
	}
}

func TestGreatProduct(t *testing.T) { // P4.7: a product that no int holds
	var m api.Model
	for i := range 32 {
		m.Vars = append(m.Vars, api.Var{Name: string([]byte{'v', byte('A' + i%26), byte('a' + i/26)}), Hi: 63})
		n, ok := model.Product(m, math.MaxInt)
		if i < 10 && (n != 1<<(6*i+6) || !ok) || i >= 10 && (n != 0 || ok) {
			t.Errorf("%d variables of 64 values: %d, %v", i+1, n, ok)
		}
	}
	for _, m := range []api.Model{{}, two(api.Con{}), {Vars: []api.Var{{Name: "x", Lo: 1}}}} {
		if n, ok := model.Product(m, 1000); n != 0 || ok {
			t.Errorf("Product of what isn't right: %d, %v", n, ok)
		}
	}
}
