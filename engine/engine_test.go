package engine_test

import (
	"fmt"
	"testing"

	"hallmark/api"
	"hallmark/engine"
)

// three: x, y and z from 0 to 3.
func three(cons ...api.Con) api.Model {
	return api.Model{Vars: varsOf([2]int{0, 3}, [2]int{0, 3}, [2]int{0, 3}), Cons: cons}
}

// TestByTheBook: problems of all kinds by chance, with much and little fuel.
func TestByTheBook(t *testing.T) { // P14.1, P14.2, P14.4
	s := newSource(1)
	var ended [api.Out + 1]int
	var took, failed [api.Count + 1]int
	goals, refused, overfull := 0, 0, 0
	for range 20000 {
		m := s.problem(t, 5, 6, 6)
		d := storeOf(t, m)
		s.thin(d, s.Intn(2*d.Vars()+1))
		var below []int
		for range s.Intn(3) {
			below = append(below, s.below(m))
		}
		b := bookOf(m, below...)
		l, how, e := agrees(t, m, d, []int{1000, 1000, s.Intn(12)}[s.Intn(3)], below...)
		ended[how]++
		for _, c := range l {
			took[b.cons[c.Con].Kind]++
			if c.Con == len(m.Cons) {
				goals++
			}
		}
		if how != api.Failed {
			continue
		}
		c := e.Cause()
		kind := b.cons[c.Con].Kind
		failed[kind]++
		switch {
		case kind == api.AllDiff:
			overfull++
		case c.Cut != (api.Cut{}):
			refused++
		}
	}
	if min(ended[api.Still], ended[api.Failed], ended[api.Out], goals) < 1000 || min(refused, overfull) < 100 {
		t.Errorf("ended %v; %d by a goal, %d refused, %d overfull: too few to tell", ended, goals, refused, overfull)
	}
	for kind := api.Lin; kind <= api.Count; kind++ {
		if took[kind] < 500 || failed[kind] < 20 {
			t.Errorf("kind %d took %d times, failed %d times: too few to tell", kind, took[kind], failed[kind])
		}
	}
}

// TestDifferentByTheBook: of one or two values each, which are far apart, all
// may go one by one.
func TestDifferentByTheBook(t *testing.T) { // P14.2, P14.4
	s := newSource(2)
	took, refused, overfull := 0, 0, 0
	for range 30000 {
		m := api.Model{Vars: varsOf(repeat(4, [2]int{0, 6})...)}
		for range 1 + s.Intn(2) {
			m.Cons = append(m.Cons, different(s.Perm(4)[:3+s.Intn(2)]...))
		}
		d := storeOf(t, m)
		for x := range 4 {
			a, b := s.Intn(7), s.Intn(7)
			for v := range 7 {
				if v != a && v != b {
					d.Cut(cut(api.Not, x, v))
				}
			}
		}
		l, how, e := agrees(t, m, d, 1000)
		took += len(l)
		switch c := e.Cause(); {
		case how == api.Failed && c.Cut != (api.Cut{}):
			refused++
		case how == api.Failed:
			overfull++
		}
	}
	if took < 500 || min(refused, overfull) < 100 {
		t.Errorf("%d went, %d refused, %d overfull: too few to tell", took, refused, overfull)
	}
}

// TestTurns: what has happened behind so many calls.
func TestTurns(t *testing.T) { // P14.2
	m := three(unlike(1, 2, 0), lin(api.Ge, 3, 1, 2), lin(api.Eq, 2, 1, 1, -1, 0))
	z, y, x := "{1 {1 2 3} {0 0 []}}", "{2 {1 1 2} {0 0 []}}", "{2 {2 0 1} {0 0 []}}"
	not3, less := "{0 {3 1 3} {0 0 []}}", "{2 {2 0 0} {0 0 []}}"
	for fuel, want := range []string{
		"[] 0 3",
		"[] 0 3",
		"[" + z + "] 0 3",
		"[" + z + " " + x + " " + y + "] 0 3",
		"[" + z + " " + x + " " + y + " " + not3 + "] 0 3",
		"[" + z + " " + x + " " + y + " " + not3 + "] 0 3",
		"[" + z + " " + x + " " + y + " " + not3 + " " + less + "] 0 3",
		"[" + z + " " + x + " " + y + " " + not3 + " " + less + "] 0 3",
		"[" + z + " " + x + " " + y + " " + not3 + " " + less + "] 0 3",
		"[" + z + " " + x + " " + y + " " + not3 + " " + less + "] 0 1",
		"[" + z + " " + x + " " + y + " " + not3 + " " + less + "] 1 1",
	} {
		s := storeOf(t, m)
		l, left, how := engine.New(m).Run(s, fuel)
		if got := fmt.Sprint(l, left, how); got != want {
			t.Errorf("P14.2: Run(%d) = %s, want %s", fuel, got, want)
		}
		agrees(t, m, storeOf(t, m), fuel)
	}
}

// TestEachRunBeginsAnew: with the first constraint, not where the last one
// ended, and with no quiet calls of the last one counted.
func TestEachRunBeginsAnew(t *testing.T) { // P14.2
	m := two(unlike(0, 1, 9), lin(api.Ge, 3, 1, 0))
	s, e := storeOf(t, m), engine.New(m)
	for range 5 {
		if l, left, how := e.Run(s, 1); len(l) > 0 || left != 0 || how != api.Out {
			t.Fatalf("P14.2: one call: %v, %d, %d", l, left, how)
		}
	}
	if l, _, how := e.Run(s, 2); len(l) != 1 || how != api.Out || s.Lo(0) != 3 {
		t.Fatalf("P14.2: two calls: %v, %d", l, how)
	}
	for range 2 {
		if l, left, how := e.Run(s, 2); len(l) > 0 || left != 0 || how != api.Still {
			t.Fatalf("P14.2: nothing more goes: %v, %d, %d", l, left, how)
		}
	}
}

func TestNoRules(t *testing.T) { // P14.2
	m := two()
	m.HasGoal, m.Goal = true, terms(1, 0)
	for _, fuel := range []int{-5, -1, 0, 1, 7} {
		s := storeOf(t, m)
		l, left, how := engine.New(m).Run(s, fuel)
		if len(l) > 0 || left != max(fuel, 0) || how != api.Still || shown(s) != "[0 1 2 3][0 1 2 3]" {
			t.Errorf("P14.2: no rules, %d: %v, %d, %d", fuel, l, left, how)
		}
	}
}

// TestARefusedCut: what was cut ahead of it is cut, and told.
func TestARefusedCut(t *testing.T) { // P14.2, P14.4
	m := two(unlike(0, 1, 0), api.Con{Kind: api.Count, Op: api.Eq, K: 1, V: 2, Xs: []int{1, 1}}, lin(api.Ge, 3, 1, 0))
	expect(t, "a value after the other", m, storeOf(t, m), "[{1 {3 1 0} {0 0 []}} {1 {3 1 1} {0 0 []}} {1 {3 1 2} {0 0 []}}]", "[0 1 2 3][3]", api.Failed, "{1 {3 1 3} {0 0 []}}")
	m = api.Model{Vars: varsOf([2]int{1, 1}, [2]int{1, 3}, [2]int{3, 3}), Cons: []api.Con{different(0, 1, 2)}}
	expect(t, "all of its values", m, storeOf(t, m, cut(api.Not, 1, 2)), "[{0 {3 1 1} {1 1 [0]}}]", "[1][3][3]", api.Failed, "{0 {3 1 3} {3 3 [2]}}")
	m = two(lin(api.Ge, 2, 1, 1), unlike(0, 1, 0))
	expect(t, "the last value", m, storeOf(t, m, cut(api.AtLeast, 0, 2), cut(api.AtMost, 0, 2), cut(api.AtMost, 1, 2)), "[{0 {1 1 2} {0 0 []}}]", "[2][2]", api.Failed, "{1 {3 0 2} {0 0 []}}")
}

func TestWhatFails(t *testing.T) { // P14.4
	m := api.Model{Vars: varsOf([2]int{0, 9}, [2]int{0, 1}, [2]int{0, 1}, [2]int{0, 1}), Cons: []api.Con{
		lin(api.Le, 1, 1, 0), different(0), different(3, 1, 0, 2)}}
	s := storeOf(t, m)
	expect(t, "an overfull interval", m, s, "[{0 {2 0 1} {0 0 []}}]", "[0 1][0 1][0 1][0 1]", api.Failed, "{2 {0 0 0} {0 1 [3 1 0 2]}}")
	m.Cons = append(m.Cons, lin(api.Ge, 2, 1, 1))
	m.Cons[2] = different(0, 1)
	expect(t, "a sum", m, storeOf(t, m), "[{0 {2 0 1} {0 0 []}}]", "[0 1][0 1][0 1][0 1]", api.Failed, "{3 {0 0 0} {0 0 []}}")
}

// TestTheCauseStays: whatever is done with the store, till the next run.
func TestTheCauseStays(t *testing.T) { // P14.4
	m := three(lin(api.Le, 1, 1, 2), different(0, 1, 2))
	m.HasGoal, m.Goal = true, terms(1, 0)
	e := engine.New(m)
	if got := fmt.Sprint(e.Cause()); got != fine {
		t.Errorf("P14.4: ahead of all runs: %s", got)
	}
	s := storeOf(t, m)
	mark := s.Mark()
	s.Cut(cut(api.AtMost, 0, 1))
	s.Cut(cut(api.AtMost, 1, 1))
	const want = "{1 {0 0 0} {0 1 [0 1 2]}}"
	if _, _, how := e.Run(s, 9); how != api.Failed || fmt.Sprint(e.Cause()) != want {
		t.Fatalf("P14.4: %d, %v", how, e.Cause())
	}
	s.Back(mark)
	e.Below(2)
	if got := fmt.Sprint(e.Cause()); got != want {
		t.Errorf("P14.4: the store is another one: %s", got)
	}
	if _, _, how := e.Run(s, 1); how != api.Out || fmt.Sprint(e.Cause()) != fine {
		t.Errorf("P14.4: behind Out: %d, %v", how, e.Cause())
	}
	e.Below(-1)
	if _, _, how := e.Run(s, 9); how != api.Failed || fmt.Sprint(e.Cause()) != "{2 {0 0 0} {0 0 []}}" {
		t.Errorf("P14.4: the goal's: %d, %v", how, e.Cause())
	}
	if _, _, how := e.Run(s, 0); how != api.Out || fmt.Sprint(e.Cause()) != fine {
		t.Errorf("P14.4: without fuel: %d, %v", how, e.Cause())
	}
	e.Below(4)
	if _, _, how := e.Run(s, 9); how != api.Still || fmt.Sprint(e.Cause()) != fine {
		t.Errorf("P14.4: behind Still: %d, %v", how, e.Cause())
	}
}

// TestBelow: the last bound holds, a greater one too, in its turn behind all
// constraints.
func TestBelow(t *testing.T) { // P14.1, P14.2
	m := two(unlike(0, 1, 0))
	m.HasGoal, m.Goal = true, terms(2, 0, -1, 1)
	s, e := storeOf(t, m), engine.New(m)
	for _, c := range []struct {
		below []int
		want  string
	}{
		{nil, "[0 1 2 3][0 1 2 3]"},
		{[]int{7}, "[0 1 2 3][0 1 2 3]"},
		{[]int{6}, "[0 1 2 3][0 1 2 3]"},
		{[]int{-9, 3, 1}, "[0 1][0 1 2 3]"},
		{[]int{2}, "[0 1 2][0 1 2 3]"},
		{[]int{-2}, "[0][3]"},
	} {
		now := s.Copy()
		for _, w := range c.below {
			e.Below(w)
		}
		_, _, how := e.Run(now, 100)
		if got := shown(now); got != c.want || how != api.Still {
			t.Errorf("P14.1: Below%v: %s, %d, want %s", c.below, got, how, c.want)
		}
		agrees(t, m, s.Copy(), 100, c.below...)
	}
	e.Below(-3)
	if l, left, how := e.Run(s, 9); len(l) > 0 || left != 7 || how != api.Failed || fmt.Sprint(e.Cause()) != "{1 {0 0 0} {0 0 []}}" {
		t.Errorf("P14.1: no less: %v, %d, %d, %v", l, left, how, e.Cause())
	}
	e.Below(-2)
	if l, left, how := e.Run(s, 9); fmt.Sprint(l, left, how) != "[{1 {2 0 0} {0 0 []}} {1 {1 1 3} {0 0 []}}] 5 1" {
		t.Errorf("P14.2: the goal's turn: %v, %d, %d", l, left, how)
	}
}

func TestBelowWithoutAGoal(t *testing.T) { // P14.1
	m := two(unlike(0, 1, 0))
	e := engine.New(m)
	e.Below(-100)
	s := storeOf(t, m)
	if l, left, how := e.Run(s, 9); len(l) > 0 || left != 8 || how != api.Still {
		t.Errorf("P14.1: without a goal: %v, %d, %d", l, left, how)
	}
}
