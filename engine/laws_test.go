package engine_test

import (
	"testing"

	"hallmark/api"
	"hallmark/dom"
	"hallmark/engine"
	"hallmark/model"
)

// ended: a problem by chance, its goal's bound told or not, and a run of it.
type ended struct {
	m      api.Model
	below  []int
	ahead  *dom.Store
	behind *dom.Store
	causes []api.Cause
	how    int
}

func (s source) run(t testing.TB, vars, wide, cons, fuel int) ended {
	r := ended{m: s.problem(t, vars, wide, cons)}
	r.ahead = storeOf(t, r.m)
	s.thin(r.ahead, s.Intn(r.ahead.Vars()+1))
	r.behind = r.ahead.Copy()
	e := engine.New(r.m)
	if r.m.HasGoal && s.Intn(2) == 0 {
		r.below = []int{s.below(r.m)}
		e.Below(r.below[0])
	}
	r.causes, _, r.how = e.Run(r.behind, fuel)
	return r
}

// holds tells whether the constraint at a place, perhaps the goal's, holds.
func (r ended) holds(place int, values []int) bool {
	if place < len(r.m.Cons) {
		return model.Holds(r.m.Cons[place], values)
	}
	return model.Worth(r.m, values) < r.below[0]
}

func (r ended) allHold(values []int) bool {
	for place := range len(r.m.Cons) + len(r.below) {
		if !r.holds(place, values) {
			return false
		}
	}
	return true
}

func within(d *dom.Store, values []int) bool {
	for x, v := range values {
		if !d.Has(x, v) {
			return false
		}
	}
	return true
}

// inside tells whether all values of a store are another one's.
func inside(a, b *dom.Store) bool {
	for x := range a.Vars() {
		for _, v := range a.Values(x) {
			if !b.Has(x, v) {
				return false
			}
		}
	}
	return true
}

// wander calls rules in any order, with cuts in any order, till none takes
// anything out; false: one can't hold.
func (s source) wander(b *book, d *dom.Store) bool {
	for quiet := map[int]int{}; len(quiet) < len(b.cons); {
		place := s.Intn(len(b.cons))
		l, ok := b.tells(place, d)
		if !ok {
			return false
		}
		s.Shuffle(len(l), func(i, j int) { l[i], l[j] = l[j], l[i] })
		if len(l) > 0 {
			clear(quiet)
		} else {
			quiet[place]++
		}
		for _, c := range l {
			if _, fine := d.Cut(c.Cut); !fine {
				return false
			}
			if s.Intn(8) == 0 { // the rest is told again
				break
			}
		}
	}
	return true
}

func TestAllWaysLeadThere(t *testing.T) { // P14.3
	s := newSource(3)
	still, failed, took := 0, 0, 0
	for range 5000 {
		r := s.run(t, 5, 6, 6, 100000)
		b := bookOf(r.m, r.below...)
		if r.how == api.Failed {
			failed++
		} else {
			still++
		}
		took += len(r.causes)
		for range 3 {
			d := r.ahead.Copy()
			ok := s.wander(b, d)
			if ok != (r.how == api.Still) || ok && !dom.Same(d, r.behind) {
				t.Fatalf("P14.3: %+v of %s: %d, %s; another way: %v, %s", b.cons, shown(r.ahead), r.how, shown(r.behind), ok, shown(d))
			}
		}
		for place := range b.cons {
			if l, ok := b.tells(place, r.behind); r.how == api.Still && (!ok || len(l) > 0) {
				t.Fatalf("P14.3: %+v of %s leaves %s, but %d takes %v, %v", b.cons, shown(r.ahead), shown(r.behind), place, l, ok)
			}
		}
	}
	if min(still, failed) < 500 || took < 5000 {
		t.Errorf("%d still, %d failed, %d cuts: too few to tell", still, failed, took)
	}
}

// TestTheGreatest: of all domains within s, of which no rule takes anything
// out, none has a value that isn't left.
func TestTheGreatest(t *testing.T) { // P14.3
	s := newSource(4)
	less, none := 0, 0
	for range 3000 {
		r := s.run(t, 5, 6, 6, 100000)
		b := bookOf(r.m, r.below...)
		for range 5 {
			d := r.ahead.Copy()
			s.thin(d, 1+s.Intn(2*d.Vars()))
			if !s.wander(b, d) {
				none++
				continue
			}
			if r.how != api.Still || !inside(d, r.behind) {
				t.Fatalf("P14.3: %+v of %s: %d, %s; but of %s nothing goes", b.cons, shown(r.ahead), r.how, shown(r.behind), shown(d))
			}
			if !dom.Same(d, r.behind) {
				less++
			}
		}
	}
	if min(less, none) < 1000 {
		t.Errorf("%d with less, %d without any: too few to tell", less, none)
	}
}

func TestNoSolutionGoes(t *testing.T) { // P14.5
	s := newSource(5)
	var ways [api.Out + 1]int
	held := 0
	for range 4000 {
		fuel := []int{1000, s.Intn(9)}[s.Intn(2)]
		r := s.run(t, 4, 5, 5, fuel)
		ways[r.how]++
		all(r.ahead, func(values []int) {
			if !r.allHold(values) {
				return
			}
			held++
			if r.how == api.Failed || !within(r.behind, values) {
				t.Fatalf("P14.5: %+v below %v of %s: %d, %s, but all hold of %v", r.m, r.below, shown(r.ahead), r.how, shown(r.behind), values)
			}
		})
	}
	if held < 10000 || min(ways[api.Still], ways[api.Failed], ways[api.Out]) < 500 {
		t.Errorf("%d solutions, ended %v: too few to tell", held, ways)
	}
}

// TestEachPruning: none takes a value out of which its one constraint holds,
// and the last domains are what all prunings leave.
func TestEachPruning(t *testing.T) { // P14.2, P14.5
	s := newSource(6)
	var by [api.Count + 1]int
	goals, held := 0, 0
	for range 4000 {
		r := s.run(t, 4, 5, 5, 1000)
		d := r.ahead.Copy()
		for _, c := range r.causes {
			next := d.Copy()
			if went, ok := next.Cut(c.Cut); !went || !ok {
				t.Fatalf("P14.2: %+v of %s: %v, %v", c, shown(d), went, ok)
			}
			if c.Con < len(r.m.Cons) {
				by[r.m.Cons[c.Con].Kind]++
			} else {
				goals++
			}
			all(d, func(values []int) {
				if !r.holds(c.Con, values) {
					return
				}
				held++
				if !within(next, values) {
					t.Fatalf("P14.5: %+v below %v: %+v of %s takes %v", r.m, r.below, c, shown(d), values)
				}
			})
			d = next
		}
		if !dom.Same(d, r.behind) {
			t.Fatalf("P14.2: %+v leaves %s, its prunings %s", r.m, shown(r.behind), shown(d))
		}
	}
	for kind := api.Lin; kind <= api.Count; kind++ {
		if min(by[kind], goals) < 100 || held < 10000 {
			t.Errorf("kind %d: %d prunings, %d by goals, %d held: too few to tell", kind, by[kind], goals, held)
		}
	}
}

func TestOfOneValueEach(t *testing.T) { // P14.6
	s := newSource(7)
	yes, no, became := 0, 0, 0
	for range 30000 {
		m := s.problem(t, 4, 5, 3)
		d := storeOf(t, m)
		if s.Intn(2) == 0 {
			for x, v := range s.values(d) {
				d.Cut(cut(api.AtLeast, x, v))
				d.Cut(cut(api.AtMost, x, v))
			}
		}
		sure := len(d.Open()) == 0
		worth := s.below(m)
		e := engine.New(m)
		if m.HasGoal {
			e.Below(worth)
		}
		_, _, how := e.Run(d, 1000)
		if len(d.Open()) > 0 {
			continue
		}
		values := make([]int, d.Vars())
		for x := range values {
			values[x] = d.Lo(x)
		}
		is := model.Solution(m, values) && (!m.HasGoal || model.Worth(m, values) < worth)
		if is != (how == api.Still) {
			t.Fatalf("P14.6: %+v below %d of %v: %d", m, worth, values, how)
		}
		switch {
		case is && !sure:
			became++
		case is:
			yes++
		default:
			no++
		}
	}
	if min(yes, no, became) < 500 {
		t.Errorf("%d hold, %d came to hold, %d don't: too few to tell", yes, became, no)
	}
}

// TestEnoughFuel: the bound that the chapter tells, and that more changes nothing.
func TestEnoughFuel(t *testing.T) { // P14.2
	s := newSource(8)
	for range 5000 {
		m := s.problem(t, 5, 6, 6)
		d := storeOf(t, m)
		e := engine.New(m)
		rules := len(m.Cons)
		if m.HasGoal {
			e.Below(s.below(m))
			rules++
		}
		z := 0
		for x := range d.Vars() {
			z += d.Size(x) - 1
		}
		enough := (rules + 1) * (1 + z)
		more := d.Copy()
		l, left, how := e.Run(d, enough)
		if how == api.Out {
			t.Fatalf("P14.2: %+v with %d: out of fuel", m, enough)
		}
		again, rest, ends := e.Run(more, enough+1000)
		if len(again) != len(l) || rest != left+1000 || ends != how || !dom.Same(d, more) {
			t.Fatalf("P14.2: %+v: %d left, %d; with 1000 more %d left, %d", m, left, how, rest, ends)
		}
	}
}
