package pb_test

import (
	"testing"

	"hallmark/api"
	own "hallmark/big"
	"hallmark/pb"
)

func TestRulesKeepWhatHolds(t *testing.T) { // P2.6
	s := newSource()
	s.each(t, func(r pb.Row) {
		o, n := of(t, s.plain()), s.factor(t)
		times, _ := r.Times(n)
		div, _ := r.Div(n)
		v := s.Intn(vars + 2)
		for bits := range 1 << vars {
			is := holds(r, bits)
			switch {
			case is && holds(o, bits) && !holds(r.Add(o), bits):
				t.Fatalf("P2.6: %s and %s hold of %b, their sum doesn't", text(r), text(o), bits)
			case is && !holds(div, bits):
				t.Fatalf("P2.6: %s holds of %b, by %s it doesn't", text(r), bits, n.Text())
			case is && !holds(r.Weaken(v), bits):
				t.Fatalf("P2.6: %s holds of %b, without %d it doesn't", text(r), bits, v)
			case is != holds(times, bits) || is != holds(r.Saturate(), bits):
				t.Fatalf("P2.6: %s: times %s, or saturated, says another thing of %b", text(r), n.Text(), bits)
			case is == holds(r.Negate(), bits):
				t.Fatalf("P2.6: %s, and its negation, of %b", text(r), bits)
			}
		}
	})
}

func TestContradictionHoldsOfNone(t *testing.T) { // P2.6
	found := map[bool]int{}
	s := newSource()
	s.each(t, func(r pb.Row) {
		some := false
		for bits := range 1 << vars {
			some = some || holds(r, bits)
		}
		found[some]++
		if some == r.Contradiction() {
			t.Fatalf("P2.6: %s: holds of some: %v, contradiction: %v", text(r), some, r.Contradiction())
		}
	})
	if found[true] == 0 || found[false] == 0 {
		t.Errorf("P2.6: too few kinds of rows: %v", found)
	}
}

func TestPlainAndBack(t *testing.T) { // P2.7
	s := newSource()
	s.each(t, func(r pb.Row) {
		if back := of(t, r.Plain()); !pb.Same(back, r) || text(back) != text(r) {
			t.Fatalf("P2.7: %s comes back as %s", text(r), text(back))
		}
	})
	for _, r := range []pb.Row{{}, pb.Row{}.Negate()} {
		if back := of(t, r.Plain()); !pb.Same(back, r) {
			t.Errorf("P2.7: %s comes back as %s", text(r), text(back))
		}
	}
}

func TestSumsGoInAnyOrder(t *testing.T) { // P2.7
	below := func(a, b api.Row) bool { return std(stepped(joined(a, b), true).Degree).Sign() < 0 }
	grouped := 0
	s := newSource()
	s.each(t, func(a pb.Row) {
		b, c := of(t, s.plain()), of(t, s.plain())
		if !pb.Same(a.Add(b), b.Add(a)) {
			t.Fatalf("P2.7: %s and %s in two orders", text(a), text(b))
		}
		left, right := a.Add(b), b.Add(c)
		if below(a.Plain(), b.Plain()) || below(b.Plain(), c.Plain()) || below(left.Plain(), c.Plain()) || below(a.Plain(), right.Plain()) {
			return
		}
		grouped++
		if !pb.Same(left.Add(c), a.Add(right)) {
			t.Fatalf("P2.7: %s, %s and %s in two groupings", text(a), text(b), text(c))
		}
	})
	if grouped < 100 {
		t.Errorf("P2.7: only %d groupings", grouped)
	}
}

// TestSumCutOff: a degree that would be below 0 on the way is 0, and what is left says less.
func TestSumCutOff(t *testing.T) { // P2.7
	a, b, c := row(t, "1 x1 >= 0"), row(t, "1 ~x1 >= 0"), row(t, "1 x1 >= 2")
	if got := text(a.Add(b).Add(c)); got != "1 x1 >= 2" {
		t.Errorf("P2.7: cut off first: %s", got)
	}
	if got := text(a.Add(b.Add(c))); got != "1 x1 >= 1" {
		t.Errorf("P2.7: cut off nowhere: %s", got)
	}
}

func TestTimesThenDiv(t *testing.T) { // P2.8
	s := newSource()
	s.each(t, func(r pb.Row) {
		n := s.factor(t)
		times, _ := r.Times(n)
		if back, e := times.Div(n); e != api.OK || !pb.Same(back, r) {
			t.Fatalf("P2.8: %s times and by %s is %s", text(r), n.Text(), text(back))
		}
	})
	if same, e := row(t, "3 x1 >= 2").Times(own.Of(1)); e != api.OK || text(same) != "3 x1 >= 2" {
		t.Errorf("P2.8: once the row is %s", text(same))
	}
}

func TestSaturateTwice(t *testing.T) { // P2.8
	above := 0
	s := newSource()
	s.each(t, func(r pb.Row) {
		if r.Degree().Sign() > 0 {
			above++
		}
		once := r.Saturate()
		if twice := once.Saturate(); !pb.Same(once, twice) {
			t.Fatalf("P2.8: %s saturated is %s, then %s", text(r), text(once), text(twice))
		}
	})
	if above == 0 {
		t.Errorf("P2.8: no row with a degree above 0")
	}
}
