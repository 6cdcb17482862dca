package prop_test

import (
	"math"
	"math/rand"
	"slices"
	"strconv"
	"testing"

	"hallmark/api"
	"hallmark/dom"
)

// source: stores and constraints by chance, the same ones in each run.
type source struct{ *rand.Rand }

func newSource(seed int64) source { return source{rand.New(rand.NewSource(seed))} }

// storeOf makes a store behind cuts, of variables with these bounds.
func storeOf(t *testing.T, ends [][2]int, cuts ...api.Cut) *dom.Store {
	t.Helper()
	var m api.Model
	for i, e := range ends {
		m.Vars = append(m.Vars, api.Var{Name: "x" + strconv.Itoa(i), Lo: e[0], Hi: e[1]})
	}
	d := dom.New(m)
	if d.Vars() != len(ends) {
		t.Fatalf("a store of %v", ends)
	}
	for _, c := range cuts {
		if _, ok := d.Cut(c); !ok {
			t.Fatalf("the cut %+v of %v", c, ends)
		}
	}
	return d
}

// two: x and y from 0 to 3, behind cuts.
func two(t *testing.T, cuts ...api.Cut) *dom.Store {
	t.Helper()
	return storeOf(t, [][2]int{{0, 3}, {0, 3}}, cuts...)
}

func cut(kind, x, v int) api.Cut { return api.Cut{Kind: kind, X: x, V: v} }

// sure: the cuts that leave of x the value v alone.
func sure(x, v int) []api.Cut { return []api.Cut{cut(api.AtLeast, x, v), cut(api.AtMost, x, v)} }

// terms: pairs of a coefficient and a variable.
func terms(pairs ...int) []api.Term {
	var out []api.Term
	for i := 0; i < len(pairs); i += 2 {
		out = append(out, api.Term{C: pairs[i], X: pairs[i+1]})
	}
	return out
}

func lin(op, k int, pairs ...int) api.Con {
	return api.Con{Kind: api.Lin, Op: op, K: k, Terms: terms(pairs...)}
}

func repeat[T any](n int, v T) []T { return slices.Repeat([]T{v}, n) }

// store: some variables, some of them 0 or 1, with holes.
func (s source) store(t *testing.T, most, width int) *dom.Store {
	var ends [][2]int
	for range 1 + s.Intn(most) {
		lo := s.Intn(5) - 3
		if s.Intn(4) == 0 {
			ends = append(ends, [2]int{0, 1})
		} else {
			ends = append(ends, [2]int{lo, lo + s.Intn(width)})
		}
	}
	d := storeOf(t, ends)
	s.thin(d, s.Intn(2*len(ends)+1))
	return d
}

// thin cuts a store so often, as far as a value is left.
func (s source) thin(d *dom.Store, times int) {
	for range times {
		x := s.Intn(d.Vars())
		values := d.Values(x)
		kind := []int{api.Not, api.Not, api.AtLeast, api.AtMost}[s.Intn(4)]
		d.Cut(cut(kind, x, values[s.Intn(len(values))]))
	}
}

// values: one of each variable's.
func (s source) values(d *dom.Store) []int {
	out := make([]int, d.Vars())
	for x := range out {
		out[x] = s.of(d, x)
	}
	return out
}

func (s source) of(d *dom.Store, x int) int { return d.Values(x)[s.Intn(d.Size(x))] }

func (s source) places(n, vars int) []int {
	out := make([]int, n)
	for i := range out {
		out[i] = s.Intn(vars)
	}
	return out
}

// terms: few, so that a variable may stand there twice, and fall out.
func (s source) terms(vars int) []api.Term {
	var out []api.Term
	for range 1 + s.Intn(4) {
		out = append(out, api.Term{C: []int{-3, -2, -1, 1, 1, 2, 5}[s.Intn(7)], X: s.Intn(vars)})
	}
	if s.Intn(4) == 0 {
		out = append(out, api.Term{C: -out[0].C, X: out[0].X})
	}
	return out
}

// near: what the terms come to of some values, and a little more or less.
func (s source) near(d *dom.Store, list []api.Term) int {
	sum, values := s.Intn(5)-2, s.values(d)
	for _, t := range list {
		sum += t.C * values[t.X]
	}
	return sum
}

// con: a constraint of a kind that could stand there, with numbers that now and
// then are no variable's.
func (s source) con(kind int, d *dom.Store) api.Con {
	n := d.Vars()
	c := api.Con{Kind: kind}
	switch kind {
	case api.Lin:
		c.Op, c.Terms = api.Le+s.Intn(3), s.terms(n)
		c.K = s.near(d, c.Terms)
	case api.Ne:
		c.X, c.Y = s.Intn(n), s.Intn(n)
		c.K = s.of(d, c.X) - s.of(d, c.Y)
	case api.AllDiff:
		c.Xs = s.places(1+s.Intn(3), n)
	case api.Element:
		c.X, c.Y = s.Intn(n), s.Intn(n)
		for range 1 + s.Intn(5) {
			c.Table = append(c.Table, s.of(d, []int{c.Y, s.Intn(n)}[s.Intn(2)]))
		}
	case api.Max, api.Min:
		c.Y, c.Xs = s.Intn(n), s.places(1+s.Intn(3), n)
	case api.Reif:
		c.X, c.Terms = s.Intn(n), s.terms(n)
		for x := range n {
			if d.Has(x, 0) || d.Has(x, 1) {
				c.X = []int{c.X, x}[s.Intn(2)]
			}
		}
		c.K = s.near(d, c.Terms)
	case api.Table:
		c.Xs = s.places(1+s.Intn(3), n)
		for range 1 + s.Intn(5) {
			c.Rows = append(c.Rows, s.row(d, c.Xs))
		}
	case api.Count:
		c.Op, c.Xs = api.Le+s.Intn(3), s.places(1+s.Intn(5), n)
		c.V, c.K = s.of(d, c.Xs[0]), s.Intn(len(c.Xs)+2)-1
	}
	return c
}

func (s source) row(d *dom.Store, xs []int) []int {
	var row []int
	for _, x := range xs {
		v := s.of(d, x)
		if s.Intn(8) == 0 {
			v += s.Intn(5) - 2
		}
		row = append(row, v)
	}
	return row
}

// all goes through all values that lie in a store.
func all(d *dom.Store, visit func(values []int)) {
	values := make([]int, d.Vars())
	var from func(x int)
	from = func(x int) {
		if x == len(values) {
			visit(values)
			return
		}
		for _, v := range d.Values(x) {
			values[x] = v
			from(x + 1)
		}
	}
	from(0)
}

// far: numbers of which a sum may wrap round.
func far() []int {
	return []int{math.MinInt, math.MinInt + 1, -1 << 62, -1 << 57, math.MinInt32, math.MaxInt32, 1 << 57, 1 << 62, math.MaxInt - 1, math.MaxInt}
}
