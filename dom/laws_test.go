package dom_test

import (
	"testing"

	"hallmark/api"
	"hallmark/dom"
)

// seen: how often each thing happened that a session by chance should show.
type seen struct{ went, stayed, refused, back, noBack, copied int }

// pair: a store, and the lists that tell what it should answer.
type pair struct {
	store *dom.Store
	lists *lists
}

// TestSessions: all calls in any order, on stores and on copies of them, held
// against lists.
func TestSessions(t *testing.T) { // P11.1 to P11.5
	s := newSource(2)
	var n seen
	for range 300 {
		vars := s.vars(5)
		all := []pair{{made(t, vars...), listed(vars)}}
		for range 60 {
			p := all[s.Intn(len(all))]
			switch k := s.Intn(20); {
			case k < 12:
				went, ok := cutBoth(t, p.store, p.lists, s.cut(vars))
				n.cut(went, ok)
			case k < 15:
				if got, want := p.store.Mark(), p.lists.mark(); got != want {
					t.Fatalf("P11.4: Mark = %d, want %d", got, want)
				}
			case k < 19:
				mark := s.Intn(len(p.lists.marks)+3) - 1
				got, want := p.store.Back(mark), p.lists.back(mark)
				if got != want {
					t.Fatalf("P11.4: Back(%d) = %v, want %v", mark, got, want)
				}
				n.wentBack(got)
			default:
				all = append(all, pair{p.store.Copy(), p.lists.copied()})
				n.copied++
			}
			p.agrees(t, all)
		}
		for _, p := range all {
			agrees(t, p.store, p.lists)
		}
	}
	if min(n.went, n.stayed, n.refused, n.back, n.noBack, n.copied) < 300 {
		t.Errorf("too few to tell: %+v", n)
	}
}

func (n *seen) cut(went, ok bool) {
	switch {
	case went:
		n.went++
	case ok:
		n.stayed++
	default:
		n.refused++
	}
}

func (n *seen) wentBack(ok bool) {
	if ok {
		n.back++
	} else {
		n.noBack++
	}
}

// agrees holds all stores against their lists, and each against this one.
func (p pair) agrees(t *testing.T, all []pair) {
	t.Helper()
	for _, q := range all {
		if got, want := standing(q.store), q.lists.standing(); got != want {
			t.Fatalf("P11.2, P11.5: %s\nwant %s", got, want)
		}
		if dom.Same(p.store, q.store) != (p.lists.standing() == q.lists.standing()) {
			t.Fatalf("P11.5: Same is %v: %s\nand %s", dom.Same(p.store, q.store), standing(p.store), standing(q.store))
		}
	}
}

// done cuts one after another, and tells whether none was refused.
func done(s *dom.Store, cuts []api.Cut) bool {
	all := true
	for _, c := range cuts {
		_, ok := s.Cut(c)
		all = all && ok
	}
	return all
}

func TestCutsInAnyOrder(t *testing.T) { // P11.6
	s := newSource(3)
	both := 0
	for range 3000 {
		vars := s.vars(4)
		cuts := make([]api.Cut, s.Intn(8))
		for i := range cuts {
			cuts[i] = s.cut(vars)
		}
		one, other := made(t, vars...), made(t, vars...)
		fine := done(one, cuts)
		s.Shuffle(len(cuts), func(i, j int) { cuts[i], cuts[j] = cuts[j], cuts[i] })
		if done(other, cuts) != fine {
			t.Fatalf("P11.6: of %v one order is refused: %+v", vars, cuts)
		}
		if !fine {
			continue
		}
		both++
		if !dom.Same(one, other) || standing(one) != standing(other) {
			t.Fatalf("P11.6: %+v: %s, and %s", cuts, standing(one), standing(other))
		}
		for _, c := range cuts {
			if went, ok := one.Cut(c); went || !ok || !dom.Same(one, other) {
				t.Fatalf("P11.6: %+v again: %v, %v", c, went, ok)
			}
		}
	}
	if both < 1000 {
		t.Errorf("too few to tell: %d", both)
	}
}

func TestTheWayBack(t *testing.T) { // P11.7
	s := newSource(4)
	for range 500 {
		vars := s.vars(6)
		store := made(t, vars...)
		for range s.Intn(4) {
			store.Cut(s.cut(vars))
			store.Mark()
		}
		before, copied := standing(store), store.Copy()
		mark := store.Mark()
		for range s.Intn(30) {
			switch s.Intn(5) {
			case 0:
				store.Mark()
			case 1:
				store.Back(mark + 1 + s.Intn(3))
			default:
				store.Cut(s.cut(vars))
			}
		}
		if !store.Back(mark) || standing(store) != before || !dom.Same(store, copied) {
			t.Fatalf("P11.7: %s, was %s", standing(store), before)
		}
		for m := mark - 1; m >= 0; m-- { // the earlier marks stand as they stood
			if !store.Back(m) || !copied.Back(m) || !dom.Same(store, copied) {
				t.Fatalf("P11.7: at mark %d %s, want %s", m, standing(store), standing(copied))
			}
		}
		if store.Back(mark) || store.Mark() != 0 {
			t.Fatal("P11.7: a mark stands that shouldn't")
		}
	}
}
