package branch_test

import (
	"math"
	"math/rand"
	"strconv"
	"testing"

	"hallmark/api"
	"hallmark/dom"
)

// source: stores and numbers by chance, the same ones in each run.
type source struct{ *rand.Rand }

func newSource(seed int64) source { return source{rand.New(rand.NewSource(seed))} }

// storeOf makes a store behind cuts, of variables with these bounds.
func storeOf(t testing.TB, ends [][2]int, cuts ...api.Cut) *dom.Store {
	t.Helper()
	var m api.Model
	for i, e := range ends {
		m.Vars = append(m.Vars, api.Var{Name: "x" + strconv.Itoa(i), Lo: e[0], Hi: e[1]})
	}
	s := dom.New(m)
	if s.Vars() != len(ends) {
		t.Fatalf("a store of %v", ends)
	}
	for _, c := range cuts {
		if _, ok := s.Cut(c); !ok {
			t.Fatalf("the cut %+v of %v", c, ends)
		}
	}
	return s
}

// store: some variables, of one value, of few, of as many as may be, here and
// at the ends of what a bound may be, with holes.
func (s source) store(t testing.TB, most int) *dom.Store {
	t.Helper()
	var ends [][2]int
	for range 1 + s.Intn(most) {
		width := []int{0, 1, 1, s.Intn(8), s.Intn(api.MaxDomain), api.MaxDomain - 1}[s.Intn(6)]
		lo := []int{0, -s.Intn(70), s.Intn(1000), -api.MaxValue, api.MaxValue - width}[s.Intn(5)]
		ends = append(ends, [2]int{lo, lo + width})
	}
	d := storeOf(t, ends)
	s.thin(d, s.Intn(3*len(ends)+1))
	return d
}

// thin cuts a store so often, as far as a value is left.
func (s source) thin(d *dom.Store, times int) {
	for range times {
		x := s.Intn(d.Vars())
		values := d.Values(x)
		kind := []int{api.Not, api.Not, api.Not, api.AtLeast, api.AtMost}[s.Intn(5)]
		d.Cut(api.Cut{Kind: kind, X: x, V: values[s.Intn(len(values))]})
	}
}

// number: mostly a little one, of either sign, now and then one of any size.
func (s source) number() int {
	switch s.Intn(6) {
	case 0:
		return far()[s.Intn(len(far()))]
	case 1:
		return int(s.Uint64())
	}
	return s.Intn(400) - 200
}

// far: numbers near the ends of an int, and of one of half its length.
func far() []int {
	var out []int
	for k := range 70 {
		out = append(out, math.MinInt+k, math.MaxInt-k)
	}
	return append(out, math.MinInt32-1, math.MinInt32, math.MaxInt32, math.MaxInt32+1, -1<<32, 1<<32)
}
