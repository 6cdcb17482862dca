package dom_test

import (
	"fmt"
	"slices"
	"strconv"
	"testing"

	"hallmark/api"
	"hallmark/dom"
)

func TestNew(t *testing.T) { // P11.1
	s := newSource(1)
	for range 300 {
		vars := s.vars(api.MaxVars)
		agrees(t, made(t, vars...), listed(vars))
	}
}

func TestNewAtTheLimits(t *testing.T) { // P11.1
	most := make([]api.Var, api.MaxVars)
	for i := range most {
		most[i] = api.Var{Name: "x" + strconv.Itoa(i), Lo: -i, Hi: -i + api.MaxDomain - 1}
	}
	agrees(t, made(t, most...), listed(most))
	ends := []api.Var{{Name: "a", Lo: -api.MaxValue, Hi: -api.MaxValue + api.MaxDomain - 1}, {Name: "b", Lo: api.MaxValue - api.MaxDomain + 1, Hi: api.MaxValue}, {Name: "c", Lo: api.MaxValue, Hi: api.MaxValue}}
	agrees(t, made(t, ends...), listed(ends))
}

func TestNewOfWhatIsNotRight(t *testing.T) { // P11.1
	x := api.Var{Name: "x", Hi: 3}
	many := make([]api.Var, api.MaxVars+1)
	for i := range many {
		many[i] = api.Var{Name: "x" + strconv.Itoa(i)}
	}
	for i, m := range []api.Model{
		{}, {Vars: many}, {Vars: []api.Var{{Hi: 3}}}, {Vars: []api.Var{x, x}},
		{Vars: []api.Var{{Name: "x", Hi: api.MaxDomain}}}, {Vars: []api.Var{{Name: "x", Lo: 1}}}, {Vars: []api.Var{{Name: "x", Lo: api.MaxValue, Hi: api.MaxValue + 1}}},
		{Vars: []api.Var{x}, Cons: []api.Con{{Kind: 10}}}, {Vars: []api.Var{x}, Cons: []api.Con{{Kind: api.AllDiff, Xs: []int{1}}}},
		{Vars: []api.Var{x}, Goal: []api.Term{{C: 1}}}, {Vars: []api.Var{x}, HasGoal: true},
	} {
		s := dom.New(m)
		if s == nil {
			t.Fatalf("P11.1: problem %d: nothing", i)
		}
		if got := standing(s); got != "0 variables; open: []" {
			t.Errorf("P11.1: problem %d: %s", i, got)
		}
		noVariable(t, s, 0)
		if s.Back(0) || s.Mark() != 0 || s.Mark() != 1 || s.Back(2) || !s.Back(1) || s.Mark() != 1 || !s.Back(0) || s.Back(0) {
			t.Errorf("P11.4: problem %d: marks of a store without variables", i)
		}
		if !dom.Same(s, s.Copy()) || !dom.Same(s, dom.New(api.Model{})) || dom.Same(s, made(t, x)) || dom.Same(made(t, x), s) {
			t.Errorf("P11.5: problem %d: Same", i)
		}
	}
	right := api.Model{Vars: []api.Var{x}, Cons: []api.Con{{Kind: api.AllDiff, Xs: []int{0}}}, HasGoal: true, Goal: []api.Term{{C: 1}}}
	if s := dom.New(right); s == nil || s.Vars() != 1 || s.Size(0) != 4 {
		t.Error("P11.1: a right problem with a constraint and a goal")
	}
}

// noVariable asks all of what is no variable.
func noVariable(t *testing.T, s *dom.Store, x int) {
	t.Helper()
	before := standing(s)
	if s.Lo(x) != 0 || s.Hi(x) != 0 || s.Size(x) != 0 || len(s.Values(x)) != 0 {
		t.Errorf("P11.1: of %d, which is no variable: %d, %d, %d, %v", x, s.Lo(x), s.Hi(x), s.Size(x), s.Values(x))
	}
	for _, v := range append(far(), -1, 0, 1, 5) {
		if s.Has(x, v) {
			t.Errorf("P11.1: Has(%d, %d)", x, v)
		}
		for kind := -1; kind < 6; kind++ {
			if went, ok := s.Cut(api.Cut{Kind: kind, X: x, V: v}); went || !ok {
				t.Errorf("P11.3: Cut(%d, %d, %d) = %v, %v", kind, x, v, went, ok)
			}
		}
	}
	if after := standing(s); after != before {
		t.Errorf("P11.3: %s, was %s", after, before)
	}
}

func TestNoVariable(t *testing.T) { // P11.1, P11.3
	for _, n := range []int{1, 3, api.MaxVars} {
		vars := make([]api.Var, n)
		for i := range vars {
			vars[i] = api.Var{Name: "x" + strconv.Itoa(i), Lo: 4, Hi: 6}
		}
		s := made(t, vars...)
		for _, x := range append(far(), -2, -1, n, n+1, api.MaxVars, 64) {
			if x < 0 || x >= n {
				noVariable(t, s, x)
			}
		}
	}
}

func TestCutEachOfAWideDomain(t *testing.T) { // P11.3
	for _, lo := range []int{-1000000000, -33, 0, 1, 1000000000 - 63} {
		v := api.Var{Name: "x", Lo: lo, Hi: lo + 63}
		whole := made(t, v)
		for k := lo - 2; k <= v.Hi+2; k++ {
			for kind := api.AtLeast; kind <= api.Not; kind++ {
				s, l := whole.Copy(), listed([]api.Var{v})
				cutBoth(t, s, l, api.Cut{Kind: kind, V: k})
				cutBoth(t, s, l, api.Cut{Kind: kind, V: k})
				cutBoth(t, s, l, api.Cut{Kind: api.AtLeast, V: k})
				cutBoth(t, s, l, api.Cut{Kind: api.AtMost, V: k})
				agrees(t, s, l)
			}
		}
	}
}

// cutBoth cuts a store and lists, and holds what they answer against each other.
func cutBoth(t *testing.T, s *dom.Store, l *lists, c api.Cut) (bool, bool) {
	t.Helper()
	before := l.standing()
	went, ok := s.Cut(c)
	if a, b := l.cut(c); went != a || ok != b {
		t.Fatalf("P11.3: Cut(%+v) of %s: %v, %v; want %v, %v", c, before, went, ok, a, b)
	}
	return went, ok
}

func TestCutFar(t *testing.T) { // P11.3
	for _, v := range []api.Var{{Name: "x", Lo: -1000000000, Hi: -1000000000 + 63}, {Name: "x", Lo: 1000000000 - 63, Hi: 1000000000}, {Name: "x"}, {Name: "x", Lo: -1, Hi: 40}} {
		for _, k := range far() {
			s, l := made(t, v), listed([]api.Var{v})
			if s.Has(0, k) {
				t.Errorf("P11.2: %+v has %d", v, k)
			}
			for _, kind := range append(far(), -1, 0, api.AtLeast, api.AtMost, api.Not, 4) {
				cutBoth(t, s, l, api.Cut{Kind: kind, V: k})
				agrees(t, s, l)
			}
		}
	}
}

func TestTheLastValueStays(t *testing.T) { // P11.2, P11.3
	s := made(t, api.Var{Name: "x", Lo: 7, Hi: 7}, api.Var{Name: "y", Lo: 30, Hi: 70})
	for k := 30; k <= 70; k++ {
		if k != 62 {
			if went, ok := s.Cut(api.Cut{Kind: api.Not, X: 1, V: k}); !went || !ok {
				t.Fatalf("P11.3: Not(%d): %v, %v", k, went, ok)
			}
		}
	}
	for x, v := range []int{7, 62} {
		for _, c := range []api.Cut{{Kind: api.AtLeast, X: x, V: v + 1}, {Kind: api.AtMost, X: x, V: v - 1}, {Kind: api.Not, X: x, V: v}} {
			if went, ok := s.Cut(c); went || ok {
				t.Errorf("P11.3: %+v: %v, %v", c, went, ok)
			}
			if s.Lo(x) != v || s.Hi(x) != v || s.Size(x) != 1 || !s.Has(x, v) || len(s.Open()) != 0 {
				t.Errorf("P11.3: behind %+v: %s", c, standing(s))
			}
		}
	}
}

func TestMarks(t *testing.T) { // P11.4
	s := made(t, api.Var{Name: "x", Hi: 9}, api.Var{Name: "y", Lo: 40, Hi: 44})
	for i := range 5 {
		if s.Back(i) || s.Mark() != i {
			t.Fatalf("P11.4: mark %d", i)
		}
		s.Cut(api.Cut{Kind: api.Not, X: 0, V: 2 * i})
		s.Cut(api.Cut{Kind: api.AtMost, X: 1, V: 43 - i})
	}
	before := standing(s)
	for _, mark := range append(far(), -1, -2, 5, 6) {
		if s.Back(mark) || standing(s) != before {
			t.Errorf("P11.4: Back(%d), where 0 to 4 stand: %s", mark, standing(s))
		}
	}
	if !s.Back(2) || s.Back(4) || s.Back(3) || s.Back(2) {
		t.Error("P11.4: Back(2), and again")
	}
	if got := standing(s); got != "2 variables; 1 to 9, 8: [1 3 4 5 6 7 8 9]; 40 to 42, 3: [40 41 42]; open: [0 1]" {
		t.Errorf("P11.4: at mark 2: %s", got)
	}
	if n := s.Mark(); n != 2 {
		t.Errorf("P11.4: the next mark: %d", n)
	}
	if !s.Back(0) || s.Size(0) != 10 || s.Size(1) != 5 || s.Back(0) {
		t.Errorf("P11.4: at mark 0: %s", standing(s))
	}
}

func TestManyMarks(t *testing.T) { // P11.4
	s := made(t, api.Var{Name: "x", Hi: 63})
	const many = 200000
	for i := range many {
		if n := s.Mark(); n != i {
			t.Fatalf("P11.4: mark %d is %d", i, n)
		}
		if i%10000 == 0 {
			s.Cut(api.Cut{Kind: api.Not, V: i / 10000})
		}
	}
	for _, c := range []struct{ mark, size int }{{many, 44}, {many - 1, 44}, {150001, 48}, {150000, 49}, {1, 63}, {0, 64}} {
		if s.Back(c.mark) != (c.mark < many) || s.Size(0) != c.size {
			t.Errorf("P11.4: Back(%d): %d values, want %d", c.mark, s.Size(0), c.size)
		}
	}
}

func TestSame(t *testing.T) { // P11.5
	whole := made(t, api.Var{Name: "x", Lo: 0, Hi: 63})
	part := made(t, api.Var{Name: "y", Lo: 40, Hi: 50})
	if dom.Same(whole, part) || dom.Same(part, whole) {
		t.Error("P11.5: 0 to 63 and 40 to 50")
	}
	whole.Cut(api.Cut{Kind: api.AtLeast, V: 40})
	whole.Cut(api.Cut{Kind: api.AtMost, V: 50})
	if !dom.Same(whole, part) || !dom.Same(part, whole) {
		t.Error("P11.5: the same values, come to in two ways")
	}
	part.Mark()
	if !dom.Same(whole, part) {
		t.Error("P11.5: a mark was looked at")
	}
	part.Cut(api.Cut{Kind: api.Not, V: 45})
	if dom.Same(whole, part) || dom.Same(part, whole) {
		t.Error("P11.5: a hole")
	}
	whole.Cut(api.Cut{Kind: api.Not, V: 46})
	if dom.Same(whole, part) {
		t.Error("P11.5: two holes")
	}
	moved := made(t, api.Var{Name: "x", Lo: 0, Hi: 3}, api.Var{Name: "y", Lo: 10, Hi: 13})
	other := made(t, api.Var{Name: "x", Lo: 1, Hi: 4}, api.Var{Name: "y", Lo: 10, Hi: 13})
	third := made(t, api.Var{Name: "x", Lo: 0, Hi: 3}, api.Var{Name: "y", Lo: 9, Hi: 12})
	if dom.Same(moved, other) || dom.Same(moved, third) || !dom.Same(moved, moved) {
		t.Error("P11.5: as many values, but others")
	}
	fewer := made(t, api.Var{Name: "x", Lo: 0, Hi: 3})
	if dom.Same(moved, fewer) || dom.Same(fewer, moved) {
		t.Error("P11.5: a variable less")
	}
}

func TestCopyHasTheMarks(t *testing.T) { // P11.5
	s := made(t, api.Var{Name: "x", Hi: 9}, api.Var{Name: "y", Hi: 3})
	s.Cut(api.Cut{Kind: api.Not, V: 4})
	s.Mark()
	s.Cut(api.Cut{Kind: api.AtLeast, V: 5})
	s.Mark()
	s.Cut(api.Cut{Kind: api.AtMost, X: 1, V: 1})
	c := s.Copy()
	if !dom.Same(s, c) || standing(s) != standing(c) {
		t.Errorf("P11.5: %s, the copy %s", standing(s), standing(c))
	}
	if c.Back(2) || !c.Back(1) || c.Size(1) != 4 || c.Lo(0) != 5 {
		t.Errorf("P11.5: the copy at mark 1: %s", standing(c))
	}
	c.Cut(api.Cut{Kind: api.AtMost, X: 0, V: 6})
	if n := c.Mark(); n != 1 {
		t.Errorf("P11.5: the copy's next mark: %d", n)
	}
	if s.Size(1) != 2 || s.Size(0) != 5 || s.Mark() != 2 || !s.Back(1) || s.Size(0) != 5 || s.Size(1) != 4 {
		t.Errorf("P11.5: what the copy was told shows: %s", standing(s))
	}
	if !s.Back(0) || s.Size(0) != 9 || !c.Back(0) || c.Size(0) != 9 {
		t.Errorf("P11.5: mark 0: %s, the copy %s", standing(s), standing(c))
	}
}

// TestAnswersAreNewMemory: DOC.md, What holds everywhere, 3.
func TestAnswersAreNewMemory(t *testing.T) { // P11.1, P11.2
	vars := []api.Var{{Name: "x", Hi: 9}, {Name: "y", Lo: 4, Hi: 4}, {Name: "z", Lo: 1, Hi: 2}}
	s := dom.New(api.Model{Vars: vars})
	vars[0].Hi = 3
	before := standing(s)
	values, open := s.Values(0), s.Open()
	clear(values[:cap(values)])
	clear(open[:cap(open)])
	if again := s.Values(0); standing(s) != before || &again[0] == &values[0] {
		t.Errorf("P11.2: %s, was %s", standing(s), before)
	}
	if got := s.Values(0); !slices.Equal(got, []int{0, 1, 2, 3, 4, 5, 6, 7, 8, 9}) || fmt.Sprint(s.Open()) != "[0 2]" {
		t.Errorf("P11.1: %v, %v", got, s.Open())
	}
}
