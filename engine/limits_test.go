package engine_test

import (
	"fmt"
	"math"
	"slices"
	"strconv"
	"testing"

	"hallmark/api"
	"hallmark/dom"
	"hallmark/engine"
	"hallmark/model"
)

// far: numbers of which one more or one less may wrap round, and the bounds of K.
func far() []int {
	const most = 1 << 60
	return []int{math.MinInt, math.MinInt + 1, -most - 1, -most, -most + 1, math.MinInt32, -1, 0, 1, math.MaxInt32, most - 1, most, most + 1, most + 2, math.MaxInt - 1, math.MaxInt}
}

func TestAnyWorth(t *testing.T) { // P14.1
	m := two()
	m.HasGoal, m.Goal = true, terms(1, 0, 1, 1)
	for _, worth := range far() {
		s, e := storeOf(t, m), engine.New(m)
		e.Below(worth)
		l, left, how := e.Run(s, 9)
		want := "[] 8 2 [0 1 2 3][0 1 2 3]"
		switch {
		case worth > 6:
			want = "[] 8 1 [0 1 2 3][0 1 2 3]"
		case worth == 1:
			want = "[{0 {2 0 0} {0 0 []}} {0 {2 1 0} {0 0 []}}] 7 1 [0][0]"
		}
		if got := fmt.Sprint(l, left, how, " ", shown(s)); got != want {
			t.Errorf("P14.1: Below(%d): %s, want %s", worth, got, want)
		}
	}
}

// TestGreatGoals: bounds that are beyond a problem's numbers.
func TestGreatGoals(t *testing.T) { // P14.1
	const v = api.MaxValue
	for _, sign := range []int{1, -1} {
		m := api.Model{Vars: varsOf([2]int{v - 63, v}), HasGoal: true, Goal: repeat(api.MaxTerms, api.Term{C: sign * api.MaxCoef})}
		low, high := model.Floor(m), model.Ceil(m)
		step := api.MaxTerms * api.MaxCoef
		for _, c := range []struct {
			worth, how, size int
		}{
			{high + 1, api.Still, 64}, {high, api.Still, 63}, {high - step + 1, api.Still, 63}, {high - step, api.Still, 62},
			{low + step + 1, api.Still, 2}, {low + step, api.Still, 1}, {low + 1, api.Still, 1}, {low, api.Failed, 64}, {low - 1, api.Failed, 64},
		} {
			s, e := storeOf(t, m), engine.New(m)
			e.Below(c.worth)
			if _, _, how := e.Run(s, 9); how != c.how || s.Size(0) != c.size {
				t.Errorf("P14.1: Below(%d): %d, %d values, want %d, %d", c.worth, how, s.Size(0), c.how, c.size)
			}
		}
	}
}

func TestAnyFuel(t *testing.T) { // P14.2
	m := two(lin(api.Ge, 5, 1, 0, 1, 1), unlike(0, 1, 0))
	for _, fuel := range far() {
		s := storeOf(t, m)
		l, left, how := engine.New(m).Run(s, fuel)
		switch {
		case fuel < 1 && (len(l) > 0 || left != 0 || how != api.Out):
			t.Errorf("P14.2: Run(%d): %v, %d, %d", fuel, l, left, how)
		case fuel > 2 && (len(l) != 2 || left != fuel-3 || how != api.Still):
			t.Errorf("P14.2: Run(%d): %v, %d, %d", fuel, l, left, how)
		}
	}
}

// TestAllThatMayBe: as many constraints and variables as a problem may have,
// each taking its turn.
func TestAllThatMayBe(t *testing.T) { // P14.2
	m := api.Model{HasGoal: true}
	for x := range api.MaxVars {
		m.Vars = append(m.Vars, api.Var{Name: "x" + strconv.Itoa(x), Hi: api.MaxDomain - 1})
		m.Goal = append(m.Goal, api.Term{C: 1, X: x})
	}
	for i := range api.MaxCons { // one above the other, from the last to the first
		x := (api.MaxCons - 1 - i) % (api.MaxVars - 1)
		m.Cons = append(m.Cons, lin(api.Ge, 1, 1, x+1, -1, x))
	}
	s := storeOf(t, m)
	l, how, _ := agrees(t, m, s, 100000, 31*32/2+1)
	if how != api.Still || len(l) < 2*(api.MaxVars-1) || len(s.Open()) != 0 || s.Lo(31) != 31 {
		t.Errorf("P14.2: %d cuts, %d, %s", len(l), how, shown(s))
	}
	if l[len(l)-1].Con != api.MaxCons {
		t.Errorf("P14.2: the last one is %+v, not the goal's", l[len(l)-1])
	}
	_, how, e := agrees(t, m, storeOf(t, m), 100000, 31*32/2)
	if how != api.Failed || e.Cause().Con != api.MaxCons {
		t.Errorf("P14.4: no less: %d, %+v", how, e.Cause())
	}
}

// wrong: problems that aren't right.
func wrong() []api.Model {
	good := three(lin(api.Ge, 5, 1, 0, 1, 1), different(0, 1, 2))
	out := []api.Model{{}, {Cons: good.Cons}, {HasGoal: true}, {Vars: good.Vars, HasGoal: true}, {Vars: good.Vars, Goal: terms(1, 0)}}
	for kind := -1; kind <= api.Count+1; kind++ {
		out = append(out, three(api.Con{Kind: kind}, api.Con{Kind: kind, Op: 9, X: -1, Y: 99, K: math.MinInt, V: math.MaxInt, Terms: terms(0, -1, math.MaxInt, 77), Xs: []int{-1, 99, math.MaxInt, 0, 0}, Table: []int{math.MinInt}, Rows: [][]int{nil, {1, 2}}}))
	}
	for _, goal := range [][]api.Term{terms(math.MaxInt, 0), terms(1, -1), terms(1, 99), repeat(100, api.Term{C: 1})} {
		m := three(good.Cons...)
		m.HasGoal, m.Goal = true, goal
		out = append(out, m)
	}
	many := three(repeat(1000, unlike(0, 1, 0))...)
	return append(out, many)
}

// TestWrongProblems: all calls end, and none panics.
func TestWrongProblems(t *testing.T) {
	good := three(lin(api.Ge, 5, 1, 0, 1, 1), different(0, 1, 2))
	for _, m := range wrong() {
		if _, e := model.Check(m); e == api.OK {
			t.Fatalf("%+v is right", m)
		}
		for _, s := range []*dom.Store{dom.New(m), dom.New(good), dom.New(two())} {
			e := engine.New(m)
			for _, worth := range far() {
				e.Below(worth)
				for _, fuel := range []int{-1, 0, 3, 10000} {
					e.Run(s, fuel)
					e.Cause()
				}
			}
		}
	}
}

// TestOtherStores: of another problem's store all calls end, and none panics.
func TestOtherStores(t *testing.T) {
	s := newSource(9)
	for range 3000 {
		m := s.problem(t, 6, 6, 8)
		e := engine.New(m)
		if m.HasGoal {
			e.Below(s.below(m))
		}
		other := storeOf(t, s.problem(t, 6, 6, 0))
		_, left, how := e.Run(other, 1000)
		if left < 0 || left > 1000 || how < api.Still || how > api.Out {
			t.Fatalf("%+v of %s: %d left, %d", m, shown(other), left, how)
		}
		e.Run(dom.New(api.Model{}), 1000)
	}
}

// TestNothingIsKept: what happens to a problem behind New changes nothing.
func TestNothingIsKept(t *testing.T) {
	fresh := func() api.Model {
		m := three(lin(api.Ge, 5, 1, 0, 1, 1), different(0, 1, 2), api.Con{Kind: api.Element, X: 0, Y: 1, Table: []int{9, 9, 3, 2}},
			api.Con{Kind: api.Table, Xs: []int{0, 2}, Rows: [][]int{{3, 1}, {3, 0}}})
		m.HasGoal, m.Goal = true, terms(1, 2, 1, 2)
		return m
	}
	m := fresh()
	text := fmt.Sprintf("%+v", m)
	e := engine.New(m)
	for i := range m.Cons {
		clear(m.Cons[i].Terms)
		clear(m.Cons[i].Xs)
		clear(m.Cons[i].Table)
		for _, row := range m.Cons[i].Rows {
			clear(row)
		}
		clear(m.Cons[i].Rows)
	}
	clear(m.Cons)
	clear(m.Vars)
	clear(m.Goal)
	e.Below(2)
	same := fresh()
	s := storeOf(t, same)
	if l, how, _ := sameRun(t, e, bookOf(same, 2), s, 100); how != api.Still || len(l) == 0 || shown(s) != "[3][2][0]" {
		t.Errorf("%v, %d: %s", l, how, shown(s))
	}
	same.Cons = append(same.Cons, unlike(0, 1, 0))[:len(same.Cons)] // with spare room
	engine.New(same).Run(storeOf(t, same), 100)
	if got := fmt.Sprintf("%+v", same); got != text || same.Cons[:cap(same.Cons)][len(same.Cons)].Kind != api.Ne {
		t.Errorf("the problem: %s, was %s", got, text)
	}
}

// TestMarksStay: a run is undone as other cuts are.
func TestMarksStay(t *testing.T) {
	m := two(lin(api.Ge, 5, 1, 0, 1, 1))
	s, e := storeOf(t, m), engine.New(m)
	mark := s.Mark()
	e.Run(s, 9)
	if s.Mark() != mark+1 || !s.Back(mark) || shown(s) != "[0 1 2 3][0 1 2 3]" {
		t.Errorf("behind Back: %s", shown(s))
	}
	if l, _, how := e.Run(s, 9); len(l) != 2 || how != api.Still {
		t.Errorf("once more: %v, %d", l, how)
	}
}

// spoil writes over all that hangs on causes, spare room too.
func spoil(l []api.Cause) {
	for i := range l {
		xs := l[i].Hall.Xs
		for k := range xs[:cap(xs)] {
			xs[:cap(xs)][k] = 99
		}
	}
	clear(l[:cap(l)])
}

// TestAnswersAreNewMemory: DOC.md, What holds everywhere, 3.
func TestAnswersAreNewMemory(t *testing.T) {
	m := api.Model{Vars: varsOf([2]int{1, 2}, [2]int{1, 2}, [2]int{1, 4}, [2]int{4, 4}), Cons: []api.Con{different(0, 1, 2, 3)}}
	e := engine.New(m)
	const want = "[{0 {3 2 1} {1 2 [0 1]}} {0 {3 2 2} {1 2 [0 1]}} {0 {3 2 4} {4 4 [3]}}]"
	one, _, _ := e.Run(storeOf(t, m), 9)
	two, _, _ := e.Run(storeOf(t, m), 9)
	for i := range one {
		one[i].Hall.Xs = append(one[i].Hall.Xs, 99)
		one[i].Hall.Xs[0] = 99
		if got, want := fmt.Sprint(one[i+1:]), fmt.Sprint(two[i+1:]); got != want {
			t.Errorf("two lists of one answer: %s, want %s", got, want)
		}
	}
	spoil(one)
	three, _, _ := e.Run(storeOf(t, m), 9)
	if fmt.Sprint(two) != want || fmt.Sprint(three) != want {
		t.Errorf("another answer is touched: %v, %v", two, three)
	}
	m.Cons = []api.Con{different(0, 1, 0)}
	for _, c := range []struct {
		m    api.Model
		cuts []api.Cut
		want string
	}{
		{m, nil, "{0 {0 0 0} {1 2 [0 1 0]}}"},
		{api.Model{Vars: varsOf([2]int{1, 1}, [2]int{1, 3}, [2]int{3, 3}), Cons: []api.Con{different(0, 1, 2)}}, []api.Cut{cut(api.Not, 1, 2)}, "{0 {3 1 3} {3 3 [2]}}"},
	} {
		e := engine.New(c.m)
		l, _, _ := e.Run(storeOf(t, c.m, c.cuts...), 9)
		spoil(l)
		first := e.Cause()
		spoil([]api.Cause{first})
		if got := fmt.Sprint(e.Cause()); got != c.want {
			t.Errorf("P14.4: another answer is touched: %s, want %s", got, c.want)
		}
		second := e.Cause()
		e.Run(storeOf(t, c.m), 0)
		if got := fmt.Sprint(second); got != c.want {
			t.Errorf("P14.4: a later run touches it: %s, want %s", got, c.want)
		}
	}
}

// TestTwoEngines: of one problem, neither touches the other one.
func TestTwoEngines(t *testing.T) {
	m := two(unlike(0, 1, 0))
	m.HasGoal, m.Goal = true, terms(1, 0, 1, 1)
	a, b := engine.New(m), engine.New(m)
	a.Below(0)
	b.Below(2)
	s := storeOf(t, m)
	if _, _, how := a.Run(s, 9); how != api.Failed {
		t.Fatalf("P14.1: %d", how)
	}
	if _, _, how := b.Run(s, 9); how != api.Still || shown(s) != "[0 1][0 1]" || b.Cause().Con != 0 || a.Cause().Con != 1 {
		t.Errorf("P14.1: %d, %s, %+v, %+v", how, shown(s), a.Cause(), b.Cause())
	}
}

// TestSideBySide: engines at the same time answer what they answer by themselves.
func TestSideBySide(t *testing.T) {
	m := three(lin(api.Ge, 5, 1, 0, 1, 1), different(0, 1, 2))
	m.HasGoal, m.Goal = true, terms(1, 2)
	once := func() string {
		e, s := engine.New(m), dom.New(m)
		e.Below(1)
		l, left, how := e.Run(s, 100)
		return fmt.Sprint(l, left, how, shown(s), e.Cause())
	}
	want, done := once(), make(chan string)
	for range 8 {
		go func() {
			got := make([]string, 0, 100)
			for range 100 {
				got = append(got, once())
			}
			i := slices.IndexFunc(got, func(s string) bool { return s != want })
			if i < 0 {
				i = 0
			}
			done <- got[i]
		}()
	}
	for range 8 {
		if got := <-done; got != want {
			t.Error(got)
		}
	}
}
