package order_test

import (
	"math"
	"slices"
	"testing"

	"hallmark/api"
	"hallmark/model"
	"hallmark/order"
)

func TestNumbersAsListed(t *testing.T) { // P6.1 to P6.4, P6.6
	s := newSource()
	var kinds [3]int
	for range 2000 {
		m := s.problem(t)
		o, list := made(t, m), listed(m)
		if o.Count() != len(list) {
			t.Fatalf("%+v: Count %d, want %d", m, o.Count(), len(list))
		}
		for i, want := range list {
			n, what := i+1, 0
			got, ok := o.Of(n)
			if got != want || !ok {
				t.Fatalf("%+v: Of(%d) = %+v, %v; want %+v", m, n, got, ok, want)
			}
			var back int
			switch {
			case want.Pick:
				back, what = o.Pick(want.Con, want.Row)
				kinds[2]++
			case want.Is:
				back, what = o.Is(want.X, want.V)
				kinds[1]++
			default:
				back, what = o.AtLeast(want.X, want.V)
				kinds[0]++
			}
			if back != n || what != api.Lit {
				t.Fatalf("%+v: %+v is %d, %d; want %d", m, want, back, what, n)
			}
		}
	}
	if slices.Min(kinds[:]) < 1000 {
		t.Errorf("too few to tell: %v", kinds)
	}
}

// beyond: numbers that tell nothing, near the ends and far from them.
func beyond(from, to int) []int {
	return []int{from - 1, from - 2, from - 70, to + 1, to + 2, to + 70, math.MinInt, math.MinInt + 1, math.MaxInt - 1, math.MaxInt, math.MinInt32, math.MaxInt32, 1 << 32, -1 << 32}
}

func TestNothingElseHasANumber(t *testing.T) { // P6.2 to P6.4, P6.6
	s := newSource()
	for range 500 {
		m := s.problem(t)
		o := made(t, m)
		ask := func(name string, f func(a, b int) (int, int), a, b, want int) {
			if n, what := f(a, b); n != 0 || what != want {
				t.Fatalf("%+v: %s(%d, %d) = %d, %d; want %d", m, name, a, b, n, what, want)
			}
		}
		for x, v := range m.Vars {
			for _, k := range append(beyond(v.Lo, v.Hi), v.Lo) {
				if k <= v.Lo {
					ask("AtLeast", o.AtLeast, x, k, api.True)
				} else {
					ask("AtLeast", o.AtLeast, x, k, api.False)
				}
			}
			for _, k := range beyond(v.Lo, v.Hi) {
				if stands(m, x) {
					ask("Is", o.Is, x, k, api.False)
				} else {
					ask("Is", o.Is, x, k, 0)
				}
			}
			if !stands(m, x) {
				ask("Is", o.Is, x, v.Lo, 0)
				ask("Is", o.Is, x, v.Hi, 0)
			}
		}
		for _, x := range beyond(0, len(m.Vars)-1) {
			for _, k := range []int{0, m.Vars[0].Lo, m.Vars[0].Hi, math.MaxInt, math.MinInt} {
				ask("AtLeast", o.AtLeast, x, k, 0)
				ask("Is", o.Is, x, k, 0)
			}
		}
		for c, con := range m.Cons {
			for _, r := range append(beyond(0, len(con.Rows)-1), len(con.Rows)) {
				ask("Pick", o.Pick, c, r, 0)
			}
		}
		for _, c := range beyond(0, len(m.Cons)-1) {
			ask("Pick", o.Pick, c, 0, 0)
		}
		for _, n := range beyond(1, o.Count()) {
			if what, ok := o.Of(n); what != (api.Mean{}) || ok {
				t.Fatalf("%+v: Of(%d) = %+v, %v", m, n, what, ok)
			}
		}
	}
}

func TestAssignmentByWords(t *testing.T) { // P6.5, P6.7
	s := newSource()
	picked, twice := 0, 0
	for range 1500 {
		m := s.problem(t)
		o, list := made(t, m), listed(m)
		for range 4 {
			values := s.picked(m)
			set, ok := o.Assignment(values)
			if len(set) != len(list) || !ok {
				t.Fatalf("%+v: Assignment(%v): %d, %v", m, values, len(set), ok)
			}
			rows := map[int]int{}
			for i, what := range list {
				if want := holds(m, what, values); set[i] != want {
					t.Fatalf("%+v: Assignment(%v): %+v is %v", m, values, what, set[i])
				} else if want && what.Pick {
					rows[what.Con]++
				}
			}
			for _, n := range rows {
				picked, twice = picked+1, twice+min(n-1, 1)
			}
			if back, ok := o.Values(set); !slices.Equal(back, values) || !ok {
				t.Fatalf("%+v: Values of Assignment(%v): %v, %v", m, values, back, ok)
			}
		}
	}
	if picked < 500 || twice < 50 {
		t.Errorf("too few to tell: %d, %d", picked, twice)
	}
}

func TestValuesOfAnySet(t *testing.T) { // P6.5: how many are true, whichever they are
	s := newSource()
	for range 1500 {
		m := s.problem(t)
		o, list := made(t, m), listed(m)
		set := make([]bool, len(list))
		want := make([]int, len(m.Vars))
		for x, v := range m.Vars {
			want[x] = v.Lo
		}
		often := s.Intn(5)
		for i, what := range list {
			set[i] = s.Intn(4) < often
			if set[i] && !what.Is && !what.Pick {
				want[what.X]++
			}
		}
		if got, ok := o.Values(set); !slices.Equal(got, want) || !ok {
			t.Fatalf("%+v: Values(%v) = %v, %v; want %v", m, set, got, ok, want)
		}
	}
}

func TestWrongValues(t *testing.T) { // P6.5
	s := newSource()
	for range 500 {
		m := s.problem(t)
		o := made(t, m)
		none := func(values []int) {
			if set, ok := o.Assignment(values); len(set) != 0 || ok {
				t.Fatalf("%+v: Assignment(%v) = %v, %v", m, values, set, ok)
			}
		}
		values := s.values(m.Vars)
		none(values[1:])
		none(append(slices.Clone(values), 0))
		none(append(slices.Clone(values), m.Vars[0].Lo))
		none(nil)
		x := s.Intn(len(m.Vars))
		for _, v := range beyond(m.Vars[x].Lo, m.Vars[x].Hi) {
			wrong := slices.Clone(values)
			wrong[x] = v
			none(wrong)
		}
		for _, n := range []int{-2, -1, 1, 2, 100} {
			if o.Count()+n < 0 {
				continue
			}
			if got, ok := o.Values(make([]bool, o.Count()+n)); len(got) != 0 || ok {
				t.Fatalf("%+v: Values of %d: %v, %v", m, o.Count()+n, got, ok)
			}
		}
	}
}

func TestNewRefuses(t *testing.T) { // P6.1
	table := api.Con{Kind: api.Table, Xs: []int{0, 1}, Rows: [][]int{{0, 1}}}
	wrong := map[string]api.Model{
		"no variable":  {},
		"constraints":  two(make([]api.Con, api.MaxCons+1)...),
		"no kind":      two(api.Con{}),
		"no operator":  two(api.Con{Kind: api.Count, Xs: []int{0}}),
		"a field":      two(api.Con{Kind: api.AllDiff, Xs: []int{0}, Op: api.Le}),
		"no variables": two(api.Con{Kind: api.AllDiff}),
		"a variable":   two(api.Con{Kind: api.AllDiff, Xs: []int{0, 2}}),
		"a count's":    two(api.Con{Kind: api.Count, Op: api.Le, Xs: []int{-1}}),
		"a short row":  two(table, api.Con{Kind: api.Table, Xs: []int{0, 1}, Rows: [][]int{{0, 1}, {0}}}),
		"columns":      two(api.Con{Kind: api.Table, Xs: make([]int, api.MaxCols+1), Rows: [][]int{make([]int, api.MaxCols+1)}}),
		"rows":         two(api.Con{Kind: api.Table, Xs: []int{0}, Rows: make([][]int, api.MaxTerms+1)}),
		"a number":     two(api.Con{Kind: api.Table, Xs: []int{0}, Rows: [][]int{{api.MaxValue + 1}}}),
		"a name":       {Vars: []api.Var{{Name: "9"}}},
		"bounds":       {Vars: []api.Var{{Name: "x", Lo: 0, Hi: api.MaxDomain}}},
		"turned":       {Vars: []api.Var{{Name: "x", Lo: 1, Hi: 0}}},
		"variables":    {Vars: make([]api.Var, api.MaxVars+1)},
		"a goal":       {Vars: two().Vars, Goal: []api.Term{{C: 1}}},
		"a goal's":     {Vars: two().Vars, HasGoal: true, Goal: []api.Term{{C: 0}}},
	}
	for name, m := range wrong {
		_, want := model.Check(m)
		if o, e := order.New(m); o != nil || e != want || e == api.OK {
			t.Errorf("%s: %v, %d, want %d", name, o, e, want)
		}
	}
}
