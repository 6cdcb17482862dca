package branch_test

import (
	"slices"
	"testing"

	"hallmark/api"
	"hallmark/branch"
	"hallmark/dom"
)

// part cuts a part out of a copy of a store.
func part(t *testing.T, d *dom.Store, c api.Cut) *dom.Store {
	t.Helper()
	out := d.Copy()
	if went, ok := out.Cut(c); !went || !ok {
		t.Fatalf("P17.3: the part %+v of %s: %v, %v", c, shown(d), went, ok)
	}
	return out
}

// parted holds the two parts against the store.
func parted(t *testing.T, d *dom.Store, x, k int) {
	t.Helper()
	lower := part(t, d, api.Cut{Kind: api.AtMost, X: x, V: k - 1})
	upper := part(t, d, api.Cut{Kind: api.AtLeast, X: x, V: k})
	low, high, all := lower.Values(x), upper.Values(x), d.Values(x)
	if len(low) == 0 || len(high) == 0 || len(low) >= len(all) || len(high) >= len(all) {
		t.Fatalf("P17.3: %v at %d: %v and %v", all, k, low, high)
	}
	if !slices.Equal(append(low, high...), all) {
		t.Fatalf("P17.3: %v at %d: both parts together are %v and %v", all, k, low, high)
	}
}

func TestBothParts(t *testing.T) { // P17.3
	s := newSource(3)
	holes := 0
	for range 2000 {
		d := s.store(t, 6)
		for range 10 {
			x, k, ok := branch.Pick(d, s.number())
			if !ok {
				continue
			}
			parted(t, d, x, k)
			if !d.Has(x, k) {
				holes++
			}
		}
	}
	if holes < 500 {
		t.Errorf("%d splits at a hole: too few to tell", holes)
	}
}

// TestEverySplit: as many numbers as there are splits of the widest variable,
// times the open variables, come to each split, and to nothing else, wherever
// they begin.
func TestEverySplit(t *testing.T) { // P17.3
	s := newSource(4)
	for range 400 {
		d := s.store(t, []int{1, 4, api.MaxVars}[s.Intn(3)])
		want := map[[2]int]int{}
		widest := 0
		for _, x := range d.Open() {
			for k := d.Lo(x) + 1; k <= d.Hi(x); k++ {
				want[[2]int{x, k}]++
			}
			widest = max(widest, d.Hi(x)-d.Lo(x))
		}
		f := len(d.Open())
		for _, from := range []int{0, -widest * f, s.Intn(2001) - 1000, -1 << 40} {
			got := map[[2]int]int{}
			for n := range widest * f {
				x, k, _ := branch.Pick(d, from+n)
				got[[2]int{x, k}]++
				if want[[2]int{x, k}] == 0 {
					t.Fatalf("P17.3: Pick(%d) of %s: %d, %d", from+n, shown(d), x, k)
				}
			}
			if len(got) != len(want) {
				t.Fatalf("P17.3: %s: %d of %d splits from %d on", shown(d), len(got), len(want), from)
			}
		}
	}
}

// TestSplitting: whatever numbers come, splitting ends, and each value of every
// variable is at just one end.
func TestSplitting(t *testing.T) { // P17.1 to P17.3
	s := newSource(5)
	for range 200 {
		d := storeOf(t, [][2]int{{0, s.Intn(5)}, {-2, s.Intn(4) - 2}, {7, 7 + s.Intn(4)}})
		s.thin(d, s.Intn(3))
		h := make([]int, s.Intn(30))
		for i := range h {
			h[i] = s.number()
		}
		want := 1
		for x := range d.Vars() {
			want *= d.Size(x)
		}
		ends := map[string]int{}
		splitAll(t, d, branch.New(h), ends)
		if len(ends) != want {
			t.Fatalf("P17.3: %s: %d ends, want %d", shown(d), len(ends), want)
		}
	}
}

// splitAll splits till no variable is open.
func splitAll(t *testing.T, d *dom.Store, b *branch.Script, ends map[string]int) {
	t.Helper()
	x, k, ok := branch.Pick(d, b.Next())
	if !ok {
		if len(d.Open()) > 0 || ends[shown(d)] > 0 {
			t.Fatalf("P17.2, P17.3: an end at %s", shown(d))
		}
		ends[shown(d)]++
		return
	}
	splitAll(t, part(t, d, api.Cut{Kind: api.AtMost, X: x, V: k - 1}), b, ends)
	splitAll(t, part(t, d, api.Cut{Kind: api.AtLeast, X: x, V: k}), b, ends)
}
