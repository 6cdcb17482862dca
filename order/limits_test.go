package order_test

import (
	"fmt"
	"slices"
	"testing"

	"hallmark/api"
	"hallmark/model"
)

// greatest: as many numbers as a problem can have.
func greatest() api.Model {
	var m api.Model
	var all []int
	for x := range api.MaxVars {
		m.Vars = append(m.Vars, api.Var{Name: fmt.Sprint("v", x), Lo: api.MaxValue - api.MaxDomain + 1, Hi: api.MaxValue})
		all = append(all, x)
	}
	m.Cons = append(m.Cons, api.Con{Kind: api.AllDiff, Xs: all})
	for range api.MaxCons - 1 {
		c := api.Con{Kind: api.Table, Xs: all[api.MaxVars-api.MaxCols:]}
		for r := range api.MaxTerms {
			row := slices.Repeat([]int{api.MaxValue}, api.MaxCols)
			row[api.MaxCols-1] -= r
			c.Rows = append(c.Rows, row)
		}
		m.Cons = append(m.Cons, c)
	}
	return m
}

func TestGreatest(t *testing.T) { // P6.1 to P6.6 at the limits
	m := greatest()
	o := made(t, m)
	const steps, points = api.MaxVars * (api.MaxDomain - 1), api.MaxVars * api.MaxDomain
	const count = steps + points + (api.MaxCons-1)*api.MaxTerms
	if o.Count() != count {
		t.Fatalf("Count %d, want %d", o.Count(), count)
	}
	last := api.MaxVars - 1
	for _, e := range []struct {
		f          func(a, b int) (int, int)
		a, b, want int
	}{
		{o.AtLeast, 0, api.MaxValue - api.MaxDomain + 2, 1},
		{o.AtLeast, last, api.MaxValue, steps},
		{o.Is, 0, api.MaxValue - api.MaxDomain + 1, steps + 1},
		{o.Is, last, api.MaxValue, steps + points},
		{o.Pick, 1, 0, steps + points + 1},
		{o.Pick, api.MaxCons - 1, api.MaxTerms - 1, count},
	} {
		if n, what := e.f(e.a, e.b); n != e.want || what != api.Lit {
			t.Errorf("of %d, %d: %d, %d; want %d", e.a, e.b, n, what, e.want)
		}
	}
	set, _ := o.Assignment(slices.Repeat([]int{api.MaxValue}, api.MaxVars))
	for i, is := range set {
		what, _ := o.Of(i + 1)
		if want := what.Pick && what.Row == 0 || !what.Pick && (!what.Is || what.V == api.MaxValue); is != want {
			t.Fatalf("%+v is %v", what, is)
		}
	}
}

func TestNoNumbers(t *testing.T) { // P6.1: variables of one value have no [x at least k]
	o := made(t, api.Model{Vars: []api.Var{{Name: "x", Lo: 7, Hi: 7}, {Name: "y", Lo: -api.MaxValue, Hi: -api.MaxValue}}})
	if o.Count() != 0 {
		t.Errorf("Count %d", o.Count())
	}
	if got, ok := o.Values(nil); !slices.Equal(got, []int{7, -api.MaxValue}) || !ok {
		t.Errorf("Values: %v, %v", got, ok)
	}
	if set, ok := o.Assignment([]int{7, -api.MaxValue}); len(set) != 0 || !ok {
		t.Errorf("Assignment: %v, %v", set, ok)
	}
	for n := -1; n <= 1; n++ {
		if what, ok := o.Of(n); what != (api.Mean{}) || ok {
			t.Errorf("Of(%d): %+v, %v", n, what, ok)
		}
	}
}

func TestOnlyAllDiffAndCountAsk(t *testing.T) { // P6.3
	xs, terms := []int{0, 1}, []api.Term{{C: 1, X: 0}, {C: 1, X: 1}}
	for _, c := range []api.Con{
		{Kind: api.Lin, Op: api.Le, Terms: terms},
		{Kind: api.Ne, Y: 1},
		{Kind: api.Element, Y: 1, Table: xs},
		{Kind: api.Max, Y: 1, Xs: xs},
		{Kind: api.Min, Y: 1, Xs: xs},
		{Kind: api.Reif, X: 1, Terms: terms},
		{Kind: api.Table, Xs: xs, Rows: [][]int{xs}},
	} {
		o := made(t, two(c))
		if want := 6 + len(c.Rows); o.Count() != want {
			t.Errorf("kind %d: Count %d, want %d", c.Kind, o.Count(), want)
		}
		for x := range xs {
			if n, what := o.Is(x, 0); n != 0 || what != 0 {
				t.Errorf("kind %d: Is(%d, 0) = %d, %d", c.Kind, x, n, what)
			}
		}
	}
	for _, c := range []api.Con{{Kind: api.AllDiff, Xs: xs}, {Kind: api.Count, Op: api.Eq, Xs: xs}} {
		if o := made(t, two(c, c)); o.Count() != 6+8 {
			t.Errorf("kind %d: Count %d", c.Kind, o.Count())
		}
	}
}

func TestRowsThatCannotBe(t *testing.T) { // P6.3, P6.5: a row beyond the bounds, a variable twice, a row twice
	o := made(t, two(api.Con{Kind: api.Table, Xs: []int{0, 0}, Rows: [][]int{{1, 1}, {1, 2}, {9, 9}, {1, 1}}}))
	set, ok := o.Assignment([]int{1, 0})
	if want := []bool{true, false, false, true}; !ok || !slices.Equal(set[6:], want) {
		t.Errorf("%v, %v", set, ok)
	}
	short := made(t, two(api.Con{Kind: api.Table, Xs: []int{0}, Rows: [][]int{{0}}}))
	if set, _ := short.Assignment([]int{0, 2}); !set[6] {
		t.Errorf("a Table of x alone asks for y: %v", set)
	}
}

func TestNothingIsShared(t *testing.T) { // DOC.md's rule 3: what is handed in isn't kept, what is answered is new
	m := two(
		api.Con{Kind: api.Count, Op: api.Le, Xs: []int{1}, K: 1},
		api.Con{Kind: api.Table, Xs: []int{0, 1}, Rows: [][]int{{0, 1}, {3, -1}}},
	)
	before := model.Copy(m)
	o, other := made(t, m), made(t, two())
	if !model.Same(m, before) {
		t.Errorf("the problem became %+v", m)
	}
	want, _ := o.Assignment([]int{3, -1})
	m.Vars[0].Lo, m.Vars[1].Hi = -5, 60
	m.Cons[0].Xs[0] = 0
	m.Cons[1].Xs[0], m.Cons[1].Rows[1][0] = 1, 2
	m.Cons[1].Rows[0] = nil
	values := append(make([]int, 0, 4), 3, -1)
	set, ok := o.Assignment(values)
	if !slices.Equal(set, want) || !ok || o.Count() != 12 || other.Count() != 6 {
		t.Fatalf("Assignment %v, %v; want %v", set, ok, want)
	}
	first, _ := o.Values(set)
	if !slices.Equal(set, want) {
		t.Errorf("the assignment became %v", set)
	}
	clear(set[:cap(set)])
	again, _ := o.Assignment(values)
	second, _ := o.Values(again)
	first[0], first[1] = 9, 9
	if third, _ := o.Values(again); !slices.Equal(again, want) || !slices.Equal(second, values) || !slices.Equal(third, values) {
		t.Errorf("answers touch one another: %v, %v, %v", again, second, third)
	}
	if spare := values[:4]; !slices.Equal(spare, []int{3, -1, 0, 0}) {
		t.Errorf("values became %v", spare)
	}
}
