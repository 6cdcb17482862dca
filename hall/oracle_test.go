package hall_test

import (
	"cmp"
	"fmt"
	"slices"
	"testing"

	"hallmark/api"
	"hallmark/dom"
	"hallmark/hall"
)

// book: what the chapter's words say of places, interval by interval.
type book struct {
	*dom.Store
	places []int
}

func bookOf(xs []int, d *dom.Store) book {
	b := book{Store: d}
	for _, x := range xs {
		if x >= 0 && x < d.Vars() {
			b.places = append(b.places, x)
		}
	}
	return b
}

// halls: all intervals in their order, each once.
func (b book) halls() []api.Hall {
	var out []api.Hall
	for _, x := range b.places {
		for _, y := range b.places {
			if b.Hi(y) >= b.Lo(x) {
				out = append(out, api.Hall{From: b.Lo(x), To: b.Hi(y)})
			}
		}
	}
	order := func(a, b api.Hall) int { return cmp.Or(cmp.Compare(a.From, b.From), cmp.Compare(a.To, b.To)) }
	slices.SortFunc(out, order)
	out = slices.CompactFunc(out, func(a, b api.Hall) bool { return order(a, b) == 0 })
	for i := range out {
		for _, x := range b.places {
			if b.within(x, out[i]) {
				out[i].Xs = append(out[i].Xs, x)
			}
		}
	}
	return out
}

func (b book) within(x int, h api.Hall) bool { return b.Lo(x) >= h.From && b.Hi(x) <= h.To }

// spare: how many numbers an interval has more than places within.
func spare(h api.Hall) int { return h.To - h.From + 1 - len(h.Xs) }

func (b book) fails() (api.Hall, bool) {
	for _, h := range b.halls() {
		if spare(h) < 0 {
			return h, true
		}
	}
	return api.Hall{}, false
}

func (b book) cuts() ([]api.Cause, bool) {
	if _, over := b.fails(); over {
		return nil, false
	}
	halls := b.halls()
	var out []api.Cause
	for x := range b.Vars() {
		if !slices.Contains(b.places, x) {
			continue
		}
		for _, v := range b.Values(x) {
			for _, h := range halls {
				if spare(h) == 0 && v >= h.From && v <= h.To && !b.within(x, h) {
					out = append(out, api.Cause{Cut: not(x, v), Hall: h})
					break
				}
			}
		}
	}
	return out, true
}

func shown(d *dom.Store) string {
	out := ""
	for x := range d.Vars() {
		out += fmt.Sprint(d.Values(x))
	}
	return out
}

// agrees holds both calls against the book, and tells what they answered.
func agrees(t testing.TB, xs []int, d *dom.Store) ([]api.Cause, api.Hall, bool) {
	t.Helper()
	b := bookOf(xs, d)
	h, over := hall.Fails(xs, d)
	if want, is := b.fails(); over != is || fmt.Sprint(h) != fmt.Sprint(want) {
		t.Fatalf("P13.2: Fails(%v) of %s: %v, %v; want %v, %v", xs, shown(d), h, over, want, is)
	}
	l, ok := hall.Cuts(xs, d)
	if want, is := b.cuts(); ok != is || fmt.Sprint(l) != fmt.Sprint(want) {
		t.Fatalf("P13.3: Cuts(%v) of %s: %v, %v; want %v, %v", xs, shown(d), l, ok, want, is)
	}
	return l, h, ok
}

// expect holds what is told against what is written down by hand, and both
// against the book.
func expect(t *testing.T, what string, xs []int, d *dom.Store, cuts, fails string) {
	t.Helper()
	l, h, ok := agrees(t, xs, d)
	if got := fmt.Sprint(l, ok); got != cuts {
		t.Errorf("P13.3: %s: Cuts(%v) = %s, want %s", what, xs, got, cuts)
	}
	if got := fmt.Sprint(h, !ok); got != fails {
		t.Errorf("P13.2: %s: Fails(%v) = %s, want %s", what, xs, got, fails)
	}
}
