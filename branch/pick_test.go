package branch_test

import (
	"math"
	"slices"
	"testing"

	"hallmark/api"
	"hallmark/branch"
	"hallmark/dom"
)

func not(x, v int) api.Cut { return api.Cut{Kind: api.Not, X: x, V: v} }

func TestNumbersInTurn(t *testing.T) { // P17.2: two open variables, at each n
	s := storeOf(t, [][2]int{{7, 7}, {0, 3}, {-4, -4}, {1, 2}, {9, 9}})
	ks := []int{1, 2, 3}
	for n := -60; n < 60; n += 2 {
		picks(t, s, n, 1, ks[(n/2+30)%3], true)
		picks(t, s, n+1, 3, 2, true)
	}
}

func TestOneOpen(t *testing.T) { // P17.2: f is 1, and q is n
	s := storeOf(t, [][2]int{{5, 5}, {-3, 2}})
	for n, k := range map[int]int{0: -2, 1: -1, 4: 2, 5: -2, 6: -1, -1: 2, -5: -2, -6: 2, -7: 1, math.MaxInt: 0, math.MinInt: 0} {
		picks(t, s, n, 1, k, true)
	}
	bit := storeOf(t, [][2]int{{0, 1}})
	for _, n := range append(far(), -2, -1, 0, 1, 2) {
		picks(t, bit, n, 0, 1, true)
	}
}

func TestHoles(t *testing.T) { // P17.2: k needn't be a value
	s := storeOf(t, [][2]int{{0, 9}, {0, 2}, {4, 6}}, not(0, 0), not(0, 2), not(0, 3), not(0, 9), not(1, 1), not(2, 4))
	for i, k := range []int{2, 3, 4, 5, 6, 7, 8, 2} { // x: 1, 4 to 8
		picks(t, s, 3*i, 0, k, true)
	}
	for i, k := range []int{1, 2, 1, 2} { // y: 0, 2
		picks(t, s, 3*i+1, 1, k, true)
		picks(t, s, 3*i+2, 2, 6, true) // z: 5, 6
	}
	picks(t, s, -3, 0, 8, true)
	picks(t, s, -2, 1, 2, true)
	picks(t, s, -1, 2, 6, true)
}

func TestNoneOpen(t *testing.T) { // P17.2
	sure := storeOf(t, [][2]int{{3, 3}, {-7, -7}, {0, 2}}, api.Cut{Kind: api.AtLeast, X: 2, V: 2})
	for _, s := range []*dom.Store{sure, dom.New(api.Model{}), dom.New(api.Model{Vars: []api.Var{{Name: "x", Lo: 1}}})} {
		for _, n := range append(far(), -3, -2, -1, 0, 1, 2, 3) {
			picks(t, s, n, 0, 0, false)
		}
	}
}

func TestAtTheLimits(t *testing.T) { // P17.2
	const most, wide, v = api.MaxVars, api.MaxDomain, api.MaxValue
	all := storeOf(t, slices.Repeat([][2]int{{-31, 32}}, most))
	for i := range wide - 1 {
		for x := range most {
			picks(t, all, i*most+x, x, i-30, true)
			picks(t, all, (i-wide+1)*most+x, x, i-30, true)
		}
	}
	picks(t, all, (wide-1)*most, 0, -30, true)
	picks(t, all, -1, most-1, 32, true)
	ends := storeOf(t, [][2]int{{-v, -v + wide - 1}, {v - 1, v}, {v, v}, {v - wide + 1, v}})
	picks(t, ends, 0, 0, -v+1, true)
	picks(t, ends, 1, 1, v, true)
	picks(t, ends, 2, 3, v-wide+2, true)
	picks(t, ends, -3, 0, -v+wide-1, true)
	picks(t, ends, -1, 3, v, true)
	for _, s := range []*dom.Store{all, ends} {
		for _, n := range far() {
			agrees(t, s, n)
		}
	}
}

func TestPick(t *testing.T) { // P17.2
	s := newSource(2)
	var open, none int
	for range 2000 {
		d := s.store(t, []int{1, 3, 8, api.MaxVars}[s.Intn(4)])
		for range 20 {
			if agrees(t, d, s.number()) {
				open++
			} else {
				none++
			}
		}
	}
	if open < 10000 || none < 1000 {
		t.Errorf("%d splits, %d times none: too few to tell", open, none)
	}
}

// TestNothingIsTouched: DOC.md, What holds everywhere, 3 and 6: a store stays as
// it is, with its marks, and asked again Pick answers the same.
func TestNothingIsTouched(t *testing.T) { // P17.2
	d := storeOf(t, [][2]int{{0, 5}, {1, 4}})
	d.Mark()
	d.Cut(not(0, 2))
	before := d.Copy()
	for range 3 {
		for n := -30; n < 30; n++ {
			x, k, ok := branch.Pick(d, n)
			picks(t, before, n, x, k, ok)
			picks(t, d, n, x, k, ok)
		}
	}
	if !dom.Same(d, before) || d.Mark() != 1 || !d.Back(1) || !d.Back(0) || d.Size(0) != 6 {
		t.Errorf("P17.2: the store: %s", shown(d))
	}
}
