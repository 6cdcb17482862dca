package hall_test

import (
	"math"
	"math/rand"
	"slices"
	"strconv"
	"testing"

	"hallmark/api"
	"hallmark/dom"
)

// source: stores and places by chance, the same ones in each run.
type source struct{ *rand.Rand }

func newSource(seed int64) source { return source{rand.New(rand.NewSource(seed))} }

// storeOf makes a store behind cuts, of variables with these bounds.
func storeOf(t testing.TB, ends [][2]int, cuts ...api.Cut) *dom.Store {
	t.Helper()
	var m api.Model
	for i, e := range ends {
		m.Vars = append(m.Vars, api.Var{Name: "x" + strconv.Itoa(i), Lo: e[0], Hi: e[1]})
	}
	d := dom.New(m)
	if d.Vars() != len(ends) {
		t.Fatalf("a store of %v", ends)
	}
	for _, c := range cuts {
		if _, ok := d.Cut(c); !ok {
			t.Fatalf("the cut %+v of %v", c, ends)
		}
	}
	return d
}

// example: the chapter's x, y, z, w.
func example(t testing.TB) *dom.Store {
	t.Helper()
	return storeOf(t, [][2]int{{1, 2}, {1, 2}, {1, 4}, {4, 4}})
}

func not(x, v int) api.Cut { return api.Cut{Kind: api.Not, X: x, V: v} }

// sure leaves of x the value v alone.
func sure(d *dom.Store, x, v int) {
	d.Cut(api.Cut{Kind: api.AtLeast, X: x, V: v})
	d.Cut(api.Cut{Kind: api.AtMost, X: x, V: v})
}

func repeat[T any](n int, v T) []T { return slices.Repeat([]T{v}, n) }

// upTo: 0, 1, .. n - 1.
func upTo(n int) []int {
	out := make([]int, n)
	for i := range out {
		out[i] = i
	}
	return out
}

// store: some variables whose values lie close together, with holes.
func (s source) store(t testing.TB, most, wide int) *dom.Store {
	var ends [][2]int
	for range 1 + s.Intn(most) {
		lo := s.Intn(wide) - 2
		ends = append(ends, [2]int{lo, lo + s.Intn(1+s.Intn(wide))})
	}
	d := storeOf(t, ends)
	s.thin(d, s.Intn(2*len(ends)+1))
	return d
}

// thin cuts a store so often, as far as a value is left.
func (s source) thin(d *dom.Store, times int) {
	for range times {
		x := s.Intn(d.Vars())
		values := d.Values(x)
		kind := []int{api.Not, api.Not, api.AtLeast, api.AtMost}[s.Intn(4)]
		d.Cut(api.Cut{Kind: kind, X: x, V: values[s.Intn(len(values))]})
	}
}

// places: most variables once, in any order, now and then one twice, and some
// that are none.
func (s source) places(d *dom.Store) []int {
	out := s.Perm(d.Vars())
	out = out[:s.Intn(len(out)+1)]
	for range []int{0, 0, 1, 2}[s.Intn(4)] {
		out = append(out, s.Intn(d.Vars()))
	}
	for range []int{0, 0, 0, 3}[s.Intn(4)] {
		out = append(out, none(d)[s.Intn(len(none(d)))])
	}
	s.Shuffle(len(out), func(i, j int) { out[i], out[j] = out[j], out[i] })
	return out
}

// none: numbers that are no variables.
func none(d *dom.Store) []int {
	n := d.Vars()
	return []int{-1, n, n + 1, -n - 1, n + api.MaxVars, -api.MaxVars, math.MinInt, math.MinInt32, math.MaxInt32, math.MaxInt, 1 << 32, 1<<32 + 1}
}

// all goes through all values that lie in a store.
func all(d *dom.Store, visit func(values []int)) {
	values := make([]int, d.Vars())
	var from func(x int)
	from = func(x int) {
		if x == len(values) {
			visit(values)
			return
		}
		for _, v := range d.Values(x) {
			values[x] = v
			from(x + 1)
		}
	}
	from(0)
}

// different tells whether values are all different at the places.
func different(xs, values []int) bool {
	seen := map[int]int{}
	for _, x := range xs {
		if x < 0 || x >= len(values) {
			continue
		}
		seen[values[x]]++
		if seen[values[x]] > 1 {
			return false
		}
	}
	return true
}
