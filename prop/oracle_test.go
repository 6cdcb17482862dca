package prop_test

import (
	"fmt"
	"slices"
	"testing"

	"hallmark/api"
	"hallmark/dom"
	"hallmark/prop"
)

// said: what a rule says of a variable: which values stay, and whether they are
// an interval.
type said struct {
	x        int
	interval bool
	stays    func(v int) bool
}

// book: what the chapter's words say of a constraint, value by value.
type book struct {
	*dom.Store
	fails bool
	said  []said
}

func (b *book) interval(x int, stays func(v int) bool) { b.said = append(b.said, said{x, true, stays}) }

func (b *book) some(x int, stays func(v int) bool) { b.said = append(b.said, said{x, false, stays}) }

func (b *book) failsIf(is bool) { b.fails = b.fails || is }

// bookOf takes a constraint that may stand there.
func bookOf(c api.Con, d *dom.Store) *book {
	b := &book{Store: d}
	switch c.Kind {
	case api.Lin:
		b.lin(c.Terms, c.Op, c.K)
	case api.Ne:
		b.ne(c)
	case api.Element:
		b.element(c)
	case api.Max:
		b.max(c)
	case api.Min:
		b.min(c)
	case api.Reif:
		b.reif(c)
	case api.Table:
		b.table(c)
	case api.Count:
		b.count(c)
	}
	return b
}

// with tells the least value of a sum (the greatest one), with v in the place
// of what x has there; no variable: -1.
func (b *book) with(terms []api.Term, greatest bool, x, v int) int {
	sum := 0
	for y := range b.Vars() {
		of := 0
		for _, t := range terms {
			if t.X == y {
				of += t.C
			}
		}
		switch {
		case x == y:
			sum += of * v
		case of > 0 == greatest:
			sum += of * b.Hi(y)
		default:
			sum += of * b.Lo(y)
		}
	}
	return sum
}

func (b *book) lin(terms []api.Term, op, k int) {
	for x := range b.Vars() {
		of := 0
		for _, t := range terms {
			if t.X == x {
				of += t.C
			}
		}
		if of == 0 {
			continue
		}
		if op != api.Ge {
			b.interval(x, func(v int) bool { return b.with(terms, false, x, v) <= k })
		}
		if op != api.Le {
			b.interval(x, func(v int) bool { return b.with(terms, true, x, v) >= k })
		}
	}
	b.failsIf(op != api.Ge && b.with(terms, false, -1, 0) > k)
	b.failsIf(op != api.Le && b.with(terms, true, -1, 0) < k)
}

func (b *book) ne(c api.Con) {
	if c.X == c.Y {
		b.failsIf(c.K == 0)
		return
	}
	if of := b.Values(c.Y); len(of) == 1 {
		b.some(c.X, func(v int) bool { return v-of[0] != c.K })
	}
	if of := b.Values(c.X); len(of) == 1 {
		b.some(c.Y, func(v int) bool { return of[0]-v != c.K })
	}
}

func (b *book) element(c api.Con) {
	var places, numbers []int
	for _, v := range b.Values(c.X) {
		if v >= 0 && v < len(c.Table) && slices.Contains(b.Values(c.Y), c.Table[v]) {
			places, numbers = append(places, v), append(numbers, c.Table[v])
		}
	}
	b.some(c.X, func(v int) bool { return slices.Contains(places, v) })
	b.some(c.Y, func(v int) bool { return slices.Contains(numbers, v) })
}

func (b *book) ends(xs []int) (los, his []int) {
	for _, x := range xs {
		los, his = append(los, slices.Min(b.Values(x))), append(his, slices.Max(b.Values(x)))
	}
	return los, his
}

func (b *book) max(c api.Con) {
	los, his := b.ends(c.Xs)
	lo, hi := b.Lo(c.Y), b.Hi(c.Y)
	b.failsIf(slices.Max(his) < lo || slices.Max(los) > hi)
	b.interval(c.Y, func(v int) bool { return v >= slices.Max(los) && v <= slices.Max(his) })
	for _, x := range c.Xs {
		b.interval(x, func(v int) bool { return v <= hi })
		alone := true
		for i, y := range c.Xs {
			alone = alone && (x == y || his[i] < lo)
		}
		if alone {
			b.interval(x, func(v int) bool { return v >= lo })
		}
	}
}

func (b *book) min(c api.Con) {
	los, his := b.ends(c.Xs)
	lo, hi := b.Lo(c.Y), b.Hi(c.Y)
	b.failsIf(slices.Min(los) > hi || slices.Min(his) < lo)
	b.interval(c.Y, func(v int) bool { return v >= slices.Min(los) && v <= slices.Min(his) })
	for _, x := range c.Xs {
		b.interval(x, func(v int) bool { return v >= lo })
		alone := true
		for i, y := range c.Xs {
			alone = alone && (x == y || los[i] > hi)
		}
		if alone {
			b.interval(x, func(v int) bool { return v <= hi })
		}
	}
}

func (b *book) reif(c api.Con) {
	b.failsIf(!b.Has(c.X, 0) && !b.Has(c.X, 1))
	b.interval(c.X, func(v int) bool { return v == 0 || v == 1 })
	if b.with(c.Terms, true, -1, 0) <= c.K {
		b.interval(c.X, func(v int) bool { return v == 1 })
	}
	if b.with(c.Terms, false, -1, 0) > c.K {
		b.interval(c.X, func(v int) bool { return v == 0 })
	}
	switch fmt.Sprint(b.Values(c.X)) {
	case "[1]":
		b.lin(c.Terms, api.Le, c.K)
	case "[0]":
		b.lin(c.Terms, api.Ge, c.K+1)
	}
}

func (b *book) table(c api.Con) {
	columns := make([][]int, len(c.Xs))
	for _, row := range c.Rows {
		alive := true
		for i, x := range c.Xs {
			alive = alive && slices.Contains(b.Values(x), row[i])
		}
		for i := range c.Xs {
			if alive {
				columns[i] = append(columns[i], row[i])
			}
		}
	}
	b.failsIf(len(columns[0]) == 0)
	for i, x := range c.Xs {
		b.some(x, func(v int) bool { return slices.Contains(columns[i], v) })
	}
}

func (b *book) count(c api.Con) {
	sure, may := 0, 0
	for _, x := range c.Xs {
		if b.Has(x, c.V) {
			may++
			if b.Size(x) == 1 {
				sure++
			}
		}
	}
	b.failsIf(c.Op != api.Ge && sure > c.K || c.Op != api.Le && may < c.K)
	for x := range b.Vars() {
		n := 0
		for _, y := range c.Xs {
			if x == y {
				n++
			}
		}
		if n == 0 || !b.Has(x, c.V) {
			continue
		}
		if c.Op != api.Ge && b.Size(x) > 1 && sure+n > c.K {
			b.some(x, func(v int) bool { return v != c.V })
		}
		if c.Op != api.Le && may-n < c.K {
			b.interval(x, func(v int) bool { return v == c.V })
		}
	}
}

// cuts: P12.2, from what is said.
func (b *book) cuts() ([]api.Cut, bool) {
	if b.fails {
		return nil, false
	}
	var out []api.Cut
	for x := range b.Vars() {
		interval := true
		var kept []int
		for _, v := range b.Values(x) {
			stays := true
			for _, s := range b.said {
				if s.x == x {
					stays, interval = stays && s.stays(v), interval && s.interval
				}
			}
			if stays {
				kept = append(kept, v)
			}
		}
		if !interval || len(kept) == 0 {
			for _, v := range b.Values(x) {
				if !slices.Contains(kept, v) {
					out = append(out, api.Cut{Kind: api.Not, X: x, V: v})
				}
			}
			continue
		}
		if lo := slices.Min(kept); lo != b.Lo(x) {
			out = append(out, api.Cut{Kind: api.AtLeast, X: x, V: lo})
		}
		if hi := slices.Max(kept); hi != b.Hi(x) {
			out = append(out, api.Cut{Kind: api.AtMost, X: x, V: hi})
		}
	}
	return out, true
}

// shown: a store's domains.
func shown(d *dom.Store) string {
	out := ""
	for x := range d.Vars() {
		out += fmt.Sprint(d.Values(x))
	}
	return out
}

// agrees asks Cuts, and holds what it answers against the words.
func agrees(t *testing.T, c api.Con, d *dom.Store) ([]api.Cut, bool) {
	t.Helper()
	before := shown(d)
	got, ok := prop.Cuts(c, d)
	want, fine := bookOf(c, d).cuts()
	if ok != fine || !slices.Equal(got, want) {
		t.Fatalf("Cuts(%+v) of %s: %v, %v; want %v, %v", c, before, got, ok, want, fine)
	}
	if shown(d) != before {
		t.Fatalf("Cuts(%+v) of %s changed it: %s", c, before, shown(d))
	}
	return got, ok
}

// expect asks for cuts written as {kind x v}.
func expect(t *testing.T, what string, c api.Con, d *dom.Store, want string, fine bool) {
	t.Helper()
	l, ok := prop.Cuts(c, d)
	if got := fmt.Sprint(append([]api.Cut{}, l...)); got != want || ok != fine {
		t.Errorf("%s: Cuts(%+v) of %s: %s, %v; want %s, %v", what, c, shown(d), got, ok, want, fine)
	}
}
