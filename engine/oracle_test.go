package engine_test

import (
	"fmt"
	"testing"

	"hallmark/api"
	"hallmark/dom"
	"hallmark/engine"
	"hallmark/hall"
	"hallmark/prop"
)

// book: what the chapter's words say of a problem's runs, call by call.
type book struct {
	cons  []api.Con // the goal's behind all others, if there is one
	cause api.Cause
}

func bookOf(m api.Model, below ...int) *book {
	b := &book{cons: append([]api.Con(nil), m.Cons...)}
	if len(below) > 0 && m.HasGoal {
		b.cons = append(b.cons, api.Con{Kind: api.Lin, Op: api.Le, Terms: m.Goal, K: below[len(below)-1] - 1})
	}
	return b
}

// tells: what the rule at a place tells, each cut with its cause.
func (b *book) tells(place int, s *dom.Store) ([]api.Cause, bool) {
	c := b.cons[place]
	if c.Kind == api.AllDiff {
		l, ok := hall.Cuts(c.Xs, s)
		for i := range l {
			l[i].Con = place
		}
		return l, ok
	}
	cuts, ok := prop.Cuts(c, s)
	var l []api.Cause
	for _, k := range cuts {
		l = append(l, api.Cause{Con: place, Cut: k})
	}
	return l, ok
}

// run tells the causes, how many calls there were, and how it ended.
func (b *book) run(s *dom.Store, fuel int) ([]api.Cause, int, int) {
	var out []api.Cause
	b.cause = api.Cause{}
	rules := len(b.cons)
	for calls, quiet := 0, 0; ; {
		switch {
		case quiet >= rules:
			return out, calls, api.Still
		case fuel < 1 || calls == fuel:
			return out, calls, api.Out
		}
		place, took := calls%rules, false
		calls++
		l, ok := b.tells(place, s)
		if !ok {
			b.cause.Con = place
			if b.cons[place].Kind == api.AllDiff {
				b.cause.Hall, _ = hall.Fails(b.cons[place].Xs, s)
			}
			return out, calls, api.Failed
		}
		for _, c := range l {
			went, fine := s.Cut(c.Cut)
			if !fine {
				b.cause = c
				return out, calls, api.Failed
			}
			if went {
				out, took = append(out, c), true
			}
		}
		if quiet++; took {
			quiet = 0
		}
	}
}

func shown(d *dom.Store) string {
	out := ""
	for x := range d.Vars() {
		out += fmt.Sprint(d.Values(x))
	}
	return out
}

// agrees runs an engine of m, that was told these bounds, of s, and holds all
// that it answers and does against the book.
func agrees(t testing.TB, m api.Model, s *dom.Store, fuel int, below ...int) ([]api.Cause, int, *engine.Engine) {
	t.Helper()
	e := engine.New(m)
	for _, w := range below {
		e.Below(w)
	}
	return sameRun(t, e, bookOf(m, below...), s, fuel)
}

func sameRun(t testing.TB, e *engine.Engine, b *book, s *dom.Store, fuel int) ([]api.Cause, int, *engine.Engine) {
	t.Helper()
	other, before := s.Copy(), shown(s)
	l, left, how := e.Run(s, fuel)
	want, calls, ends := b.run(other, fuel)
	if fmt.Sprint(l) != fmt.Sprint(want) || left != max(fuel, 0)-calls || how != ends {
		t.Fatalf("P14.2: Run(%s, %d) of %+v: %v, %d, %d; want %v, %d, %d", before, fuel, b.cons, l, left, how, want, max(fuel, 0)-calls, ends)
	}
	if !dom.Same(s, other) {
		t.Fatalf("P14.2: Run(%s, %d) of %+v leaves %s, want %s", before, fuel, b.cons, shown(s), shown(other))
	}
	if got := fmt.Sprint(e.Cause()); got != fmt.Sprint(b.cause) {
		t.Fatalf("P14.4: Run(%s, %d) of %+v: Cause() = %s, want %v", before, fuel, b.cons, got, b.cause)
	}
	return l, how, e
}

// expect holds what is answered, and what is left, against what is written
// down by hand, and against the book.
func expect(t *testing.T, what string, m api.Model, s *dom.Store, causes, left string, how int, cause string) {
	t.Helper()
	l, ended, e := agrees(t, m, s, 1000)
	if got := fmt.Sprint(l); got != causes || ended != how {
		t.Errorf("P14.2: %s: %s, %d, want %s, %d", what, got, ended, causes, how)
	}
	if got := shown(s); got != left {
		t.Errorf("P14.2: %s: %s are left, want %s", what, got, left)
	}
	if got := fmt.Sprint(e.Cause()); got != cause {
		t.Errorf("P14.4: %s: Cause() = %s, want %s", what, got, cause)
	}
}
