package engine_test

import (
	"math/rand"
	"slices"
	"strconv"
	"testing"

	"hallmark/api"
	"hallmark/dom"
	"hallmark/model"
)

// source: problems and stores by chance, the same ones in each run.
type source struct{ *rand.Rand }

func newSource(seed int64) source { return source{rand.New(rand.NewSource(seed))} }

// varsOf: variables with these bounds.
func varsOf(ends ...[2]int) []api.Var {
	var out []api.Var
	for i, e := range ends {
		out = append(out, api.Var{Name: "x" + strconv.Itoa(i), Lo: e[0], Hi: e[1]})
	}
	return out
}

// two: the chapter's x and y.
func two(cons ...api.Con) api.Model {
	return api.Model{Vars: varsOf([2]int{0, 3}, [2]int{0, 3}), Cons: cons}
}

// storeOf makes a store of a right problem, behind cuts.
func storeOf(t testing.TB, m api.Model, cuts ...api.Cut) *dom.Store {
	t.Helper()
	if at, e := model.Check(m); e != api.OK {
		t.Fatalf("%+v: %v at %d", m, e, at)
	}
	s := dom.New(m)
	for _, c := range cuts {
		if _, ok := s.Cut(c); !ok {
			t.Fatalf("the cut %+v of %s", c, shown(s))
		}
	}
	return s
}

func cut(kind, x, v int) api.Cut { return api.Cut{Kind: kind, X: x, V: v} }

// terms: pairs of a coefficient and a variable.
func terms(pairs ...int) []api.Term {
	var out []api.Term
	for i := 0; i < len(pairs); i += 2 {
		out = append(out, api.Term{C: pairs[i], X: pairs[i+1]})
	}
	return out
}

func lin(op, k int, pairs ...int) api.Con {
	return api.Con{Kind: api.Lin, Op: op, K: k, Terms: terms(pairs...)}
}

func different(xs ...int) api.Con { return api.Con{Kind: api.AllDiff, Xs: xs} }

func unlike(x, y, k int) api.Con { return api.Con{Kind: api.Ne, X: x, Y: y, K: k} }

func repeat[T any](n int, v T) []T { return slices.Repeat([]T{v}, n) }

// upTo: 0, 1, .. n - 1.
func upTo(n int) []int {
	out := make([]int, n)
	for i := range out {
		out[i] = i
	}
	return out
}

// problem: some variables, some of them 0 or 1, some constraints of all kinds,
// most of which hold of some values that all of them know, and mostly a goal.
func (s source) problem(t testing.TB, vars, wide, cons int) api.Model {
	var ends [][2]int
	for range 1 + s.Intn(vars) {
		lo := s.Intn(4) - 2
		if s.Intn(4) == 0 {
			ends = append(ends, [2]int{0, 1})
		} else {
			ends = append(ends, [2]int{lo, lo + s.Intn(wide)})
		}
	}
	m := api.Model{Vars: varsOf(ends...)}
	d := storeOf(t, m)
	known := s.values(d)
	for range s.Intn(cons + 1) {
		c := s.con(1+s.Intn(api.Count), d)
		for range s.Intn(12) {
			if model.Holds(c, known) {
				break
			}
			c = s.con(c.Kind, d)
		}
		m.Cons = append(m.Cons, c)
	}
	if s.Intn(4) > 0 {
		m.HasGoal, m.Goal = true, s.terms(len(ends))
	}
	return m
}

// below: a bound near the goal's least values, so that it takes something out.
func (s source) below(m api.Model) int { return model.Floor(m) + s.Intn(9) - 1 }

// thin cuts a store so often, as far as a value is left.
func (s source) thin(d *dom.Store, times int) {
	for range times {
		x := s.Intn(d.Vars())
		kind := []int{api.Not, api.Not, api.AtLeast, api.AtMost}[s.Intn(4)]
		d.Cut(cut(kind, x, s.of(d, x)))
	}
}

// values: one of each variable's.
func (s source) values(d *dom.Store) []int {
	out := make([]int, d.Vars())
	for x := range out {
		out[x] = s.of(d, x)
	}
	return out
}

func (s source) of(d *dom.Store, x int) int { return d.Values(x)[s.Intn(d.Size(x))] }

func (s source) places(n, vars int) []int {
	out := make([]int, n)
	for i := range out {
		out[i] = s.Intn(vars)
	}
	return out
}

func (s source) terms(vars int) []api.Term {
	var out []api.Term
	for range 1 + s.Intn(4) {
		out = append(out, api.Term{C: []int{-3, -2, -1, 1, 1, 2, 5}[s.Intn(7)], X: s.Intn(vars)})
	}
	return out
}

// near: what the terms come to of some values, and a little more or less.
func (s source) near(d *dom.Store, list []api.Term) int {
	sum, values := s.Intn(5)-2, s.values(d)
	for _, t := range list {
		sum += t.C * values[t.X]
	}
	return sum
}

// con: a constraint of a kind that may stand there.
func (s source) con(kind int, d *dom.Store) api.Con {
	n := d.Vars()
	c := api.Con{Kind: kind}
	switch kind {
	case api.Lin:
		c.Op, c.Terms = api.Le+s.Intn(3), s.terms(n)
		c.K = s.near(d, c.Terms)
	case api.Ne:
		c.X, c.Y = s.Intn(n), s.Intn(n)
		c.K = s.of(d, c.X) - s.of(d, c.Y)
	case api.AllDiff:
		c.Xs = s.Perm(n)[:1+s.Intn(n)]
	case api.Element:
		c.X, c.Y = s.Intn(n), s.Intn(n)
		for range 1 + s.Intn(5) {
			c.Table = append(c.Table, s.of(d, c.Y))
		}
	case api.Max, api.Min:
		c.Y, c.Xs = s.Intn(n), s.places(1+s.Intn(3), n)
	case api.Reif:
		c.X, c.Terms = s.Intn(n), s.terms(n)
		c.K = s.near(d, c.Terms)
	case api.Table:
		c.Xs = s.places(1+s.Intn(3), n)
		for range 1 + s.Intn(5) {
			var row []int
			for _, x := range c.Xs {
				row = append(row, s.of(d, x))
			}
			c.Rows = append(c.Rows, row)
		}
	case api.Count:
		c.Op, c.Xs = api.Le+s.Intn(3), s.places(1+s.Intn(5), n)
		c.V, c.K = s.of(d, c.Xs[0]), s.Intn(len(c.Xs)+1)
	}
	return c
}

// all goes through all values that lie in a store.
func all(d *dom.Store, visit func(values []int)) {
	values := make([]int, d.Vars())
	var from func(x int)
	from = func(x int) {
		if x == len(values) {
			visit(values)
			return
		}
		for _, v := range d.Values(x) {
			values[x] = v
			from(x + 1)
		}
	}
	from(0)
}
