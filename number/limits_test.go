package number_test

import (
	"fmt"
	"math"
	"slices"
	"sync"
	"testing"

	"hallmark/api"
	"hallmark/encode"
	"hallmark/model"
	"hallmark/number"
)

// greatest: as many numbers as a problem can have.
func greatest() api.Model {
	var m api.Model
	var all []int
	for x := range api.MaxVars {
		m.Vars = append(m.Vars, api.Var{Name: fmt.Sprint("v", x), Lo: api.MaxValue - api.MaxDomain + 1, Hi: api.MaxValue})
		all = append(all, x)
	}
	m.Cons = append(m.Cons, api.Con{Kind: api.AllDiff, Xs: all})
	for range api.MaxCons - 1 {
		c := api.Con{Kind: api.Table, Xs: all[api.MaxVars-api.MaxCols:]}
		for r := range api.MaxTerms {
			row := slices.Repeat([]int{api.MaxValue}, api.MaxCols)
			row[api.MaxCols-1] -= r
			c.Rows = append(c.Rows, row)
		}
		m.Cons = append(m.Cons, c)
	}
	return m
}

func TestGreatest(t *testing.T) { // P15.1 to P15.4 at the limits
	m := greatest()
	n := number.New(m)
	const steps, points = api.MaxVars * (api.MaxDomain - 1), api.MaxVars * api.MaxDomain
	const count = steps + points + (api.MaxCons-1)*api.MaxTerms
	if n.Count() != count {
		t.Fatalf("Count %d, want %d", n.Count(), count)
	}
	const last, first = api.MaxVars - 1, api.MaxValue - api.MaxDomain + 1
	const ahead = api.MaxVars*(api.MaxDomain-2) + 3*points - 2*api.MaxVars
	for _, e := range []struct {
		f          func(a, b int) (int, bool)
		a, b, want int
	}{
		{n.AtLeast, 0, first + 1, 1},
		{n.AtLeast, last, api.MaxValue, steps},
		{n.Is, 0, first, steps + 1},
		{n.Is, last, api.MaxValue, steps + points},
		{n.Pick, 1, 0, steps + points + 1},
		{n.Pick, api.MaxCons - 1, api.MaxTerms - 1, count},
		{n.Alone, 0, first, ahead + 1},
		{n.Alone, 0, api.MaxValue, ahead + api.MaxDomain},
	} {
		if got, ok := e.f(e.a, e.b); got != e.want || !ok {
			t.Errorf("of %d, %d: %d, %v; want %d", e.a, e.b, got, ok, e.want)
		}
	}
	if rows, _ := encode.Rows(m); n.Rows() != len(rows) {
		t.Errorf("%d rows, want %d", n.Rows(), len(rows))
	}
	lits := n.Solution(slices.Repeat([]int{api.MaxValue}, api.MaxVars))
	if len(lits) != count || lits[steps-1] != steps || lits[steps] != -steps-1 || lits[count-1] != -count {
		t.Errorf("Solution: %d", len(lits))
	}
}

// TestManyRows: the kinds that lay the most, as often as can be.
func TestManyRows(t *testing.T) { // P15.1, P15.2 at the limits
	for kind, xs := range map[int][]int{api.Max: nil, api.Min: nil, api.AllDiff: nil} {
		m := api.Model{}
		for x := range api.MaxVars {
			m.Vars = append(m.Vars, api.Var{Name: fmt.Sprint("v", x), Lo: 100 * x, Hi: 100*x + api.MaxDomain - 1})
		}
		for i := range api.MaxTerms {
			xs = append(xs, i%api.MaxVars)
		}
		for range 2 {
			m.Cons = append(m.Cons, api.Con{Kind: kind, Xs: xs})
		}
		n := number.New(m)
		if rows, e := encode.Rows(m); e != api.OK || n.Rows() != len(rows) {
			t.Errorf("kind %d: %d rows, want %d, %d", kind, n.Rows(), len(rows), e)
		}
		got, ok := n.Alone(1, 100*api.MaxVars-37)
		if want, is := encode.Alone(m, 1, 100*api.MaxVars-37); got != want || ok != is || is != (kind == api.AllDiff) {
			t.Errorf("kind %d: %d, %v; want %d", kind, got, ok, want)
		}
	}
}

func TestNoNumbers(t *testing.T) { // P15.1 to P15.4: variables of one value have no [x at least k]
	n := number.New(api.Model{Vars: []api.Var{{Name: "x"}, {Name: "y", Lo: -api.MaxValue, Hi: -api.MaxValue}}})
	if n.Count() != 0 || n.Rows() != 0 || len(n.Solution([]int{0, -api.MaxValue})) != 0 {
		t.Errorf("%d numbers, %d rows", n.Count(), n.Rows())
	}
	for _, c := range []api.Cut{{Kind: api.AtLeast, V: 1}, {Kind: api.AtMost, V: -1}, {Kind: api.Not}, {Kind: api.Not, X: 1, V: -api.MaxValue}} {
		if got, ok := n.Fact(c); len(got) != 0 || !ok {
			t.Errorf("Fact(%+v): %v, %v", c, got, ok)
		}
	}
	for _, c := range []api.Cut{{Kind: api.AtLeast}, {Kind: api.AtMost}, {Kind: api.Not, V: 1}, {Kind: api.AtLeast, X: 2, V: 1}} {
		if got, ok := n.Fact(c); len(got) != 0 || ok {
			t.Errorf("Fact(%+v): %v, %v", c, got, ok)
		}
	}
}

func TestOfAWrongProblem(t *testing.T) { // P15.1 to P15.4: nothing has a number
	table := api.Con{Kind: api.Table, Xs: []int{0, 1}, Rows: [][]int{{0, 1}}}
	for name, m := range map[string]api.Model{
		"no variable":  {},
		"constraints":  two(make([]api.Con, api.MaxCons+1)...),
		"no kind":      two(api.Con{}),
		"a kind":       two(api.Con{Kind: api.Count + 1}),
		"no operator":  two(api.Con{Kind: api.Count, Xs: []int{0}}),
		"a field":      two(api.Con{Kind: api.AllDiff, Xs: []int{0, 1}, Op: api.Le}),
		"no variables": two(api.Con{Kind: api.AllDiff}),
		"a variable":   two(api.Con{Kind: api.AllDiff, Xs: []int{0, 2}}),
		"a count's":    two(api.Con{Kind: api.Count, Op: api.Le, Xs: []int{-1}}),
		"a short row":  two(table, api.Con{Kind: api.Table, Xs: []int{0, 1}, Rows: [][]int{{0, 1}, {0}}}),
		"columns":      two(table, api.Con{Kind: api.Table, Xs: make([]int, api.MaxCols+1), Rows: [][]int{make([]int, api.MaxCols+1)}}),
		"a number":     two(table, api.Con{Kind: api.Table, Xs: []int{0}, Rows: [][]int{{api.MaxValue + 1}}}),
		"a name":       {Vars: []api.Var{{Name: "9", Hi: 3}}},
		"bounds":       {Vars: []api.Var{{Name: "x", Lo: 0, Hi: api.MaxDomain}}},
		"turned":       {Vars: []api.Var{{Name: "x", Lo: 1, Hi: 0}}},
		"huge":         {Vars: []api.Var{{Name: "x", Lo: math.MinInt, Hi: math.MaxInt}}},
		"variables":    {Vars: make([]api.Var, api.MaxVars+1)},
		"a goal":       {Vars: two().Vars, Goal: []api.Term{{C: 1}}},
		"a goal's":     {Vars: two().Vars, HasGoal: true, Goal: []api.Term{{C: 0}}},
	} {
		n := number.New(m)
		if n == nil {
			t.Fatalf("%s: nothing", name)
		}
		_, least := n.AtLeast(0, 1)
		_, is := n.Is(0, 1)
		_, pick := n.Pick(0, 0)
		_, alone := n.Alone(0, 1)
		_, fact := n.Fact(api.Cut{Kind: api.AtLeast, V: 1})
		if n.Count() != 0 || n.Rows() != 0 || least || is || pick || alone || fact || len(n.Solution([]int{1, 1})) != 0 || len(n.Solution(nil)) != 0 {
			t.Errorf("%s: %d numbers, %d rows", name, n.Count(), n.Rows())
		}
	}
}

func TestRowsThatCannotBe(t *testing.T) { // P15.1, P15.4: a row beyond the bounds, a variable twice, a row twice
	n := number.New(two(api.Con{Kind: api.Table, Xs: []int{0, 0}, Rows: [][]int{{1, 1}, {1, 2}, {9, 9}, {1, 1}}}))
	if lits, want := n.Solution([]int{1, 0}), []int{7, -8, -9, 10}; !slices.Equal(lits[6:], want) {
		t.Errorf("%v", lits)
	}
	short := number.New(two(api.Con{Kind: api.Table, Xs: []int{0}, Rows: [][]int{{0}}}))
	if lits := short.Solution([]int{0, 2}); lits[6] != 7 {
		t.Errorf("a Table of x alone asks for y: %v", lits)
	}
}

func everyKind() api.Model {
	return two(
		api.Con{Kind: api.Count, Op: api.Le, Xs: []int{1}, K: 1},
		api.Con{Kind: api.Table, Xs: []int{0, 1}, Rows: [][]int{{0, 1}, {3, -1}}},
		api.Con{Kind: api.AllDiff, Xs: []int{0, 1}},
	)
}

func TestNothingIsKept(t *testing.T) { // DOC.md's rule 3: what is handed in is neither changed nor kept
	m := everyKind()
	spare := append(m.Cons[2].Xs, 7, 7)
	m.Cons[2].Xs = spare[:2]
	before := model.Copy(m)
	n := number.New(m)
	if !model.Same(m, before) || spare[2] != 7 || spare[3] != 7 {
		t.Errorf("the problem became %+v", m)
	}
	want := number.New(before)
	m.Vars[0].Lo, m.Vars[1].Hi = -5, 60
	m.Cons[0].Xs[0], m.Cons[2].Xs[1] = 0, 0
	m.Cons[1].Xs[0], m.Cons[1].Rows[1][0] = 1, 2
	m.Cons[1].Rows[0] = nil
	values := append(make([]int, 0, 4), 3, -1)
	if got := n.Solution(values); !slices.Equal(got, want.Solution(values)) || values[0] != 3 || values[1] != -1 || values[:4][2] != 0 {
		t.Errorf("Solution became %v", got)
	}
	for v := -2; v < 5; v++ {
		got, ok := n.Alone(2, v)
		if id, is := want.Alone(2, v); got != id || ok != is {
			t.Errorf("Alone(2, %d): %d, %v", v, got, ok)
		}
	}
}

func TestAnswersAreNew(t *testing.T) { // DOC.md's rule 3: no answer is touched by what is done with another one
	n := number.New(everyKind())
	values, c := []int{3, -1}, api.Cut{Kind: api.Not, X: 0, V: 1}
	lits := n.Solution(values)
	said, _ := n.Fact(c)
	wantLits, wantSaid := slices.Clone(lits), slices.Clone(said)
	again := n.Solution(values)
	other, _ := n.Fact(c)
	clear(lits[:cap(lits)])
	clear(said[:cap(said)])
	if !slices.Equal(again, wantLits) || !slices.Equal(other, wantSaid) {
		t.Errorf("%v, %v", again, other)
	}
	if got, ok := n.Fact(c); !slices.Equal(got, wantSaid) || !ok || !slices.Equal(n.Solution(values), wantLits) {
		t.Errorf("%v, %v", got, n.Solution(values))
	}
}

func TestTwoDoNotTouch(t *testing.T) { // two numberings by turns, and side by side
	s := newSource(false)
	var wait sync.WaitGroup
	for range 8 {
		a, b := s.problem(t), s.problem(t)
		va, vb := s.values(a.Vars), s.values(b.Vars)
		one := number.New(a)
		want, count, rows := one.Solution(va), one.Count(), one.Rows()
		other := number.New(b)
		other.Solution(vb)
		if one.Count() != count || one.Rows() != rows || !slices.Equal(one.Solution(va), want) {
			t.Errorf("%+v: touched by %+v", a, b)
		}
		for range 2 {
			wait.Go(func() {
				if !slices.Equal(one.Solution(va), want) || number.New(a).Rows() != rows {
					t.Errorf("%+v: touched by another goroutine", a)
				}
			})
		}
	}
	wait.Wait()
}

func BenchmarkNew(b *testing.B) {
	m := greatest()
	for b.Loop() {
		number.New(m)
	}
}
