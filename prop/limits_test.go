package prop_test

import (
	"fmt"
	"math"
	"slices"
	"testing"

	"hallmark/api"
	"hallmark/dom"
	"hallmark/prop"
)

const (
	coef  = api.MaxCoef
	value = api.MaxValue
)

// TestAnyK: a Lin's K may be any number, P12.1; the other kinds' may not.
func TestAnyK(t *testing.T) { // P12.1, P12.3
	for _, ends := range [][2]int{{0, 3}, {-value, -value + 63}, {value - 63, value}} {
		d := storeOf(t, [][2]int{ends, ends})
		for _, n := range []int{1, 32} {
			for _, c := range []int{1, -1, coef, -coef} {
				list := repeat(n, api.Term{C: c, X: 0})
				list = append(list, repeat(n, api.Term{C: c, X: 1})...)
				for _, k := range append(far(), 0, value+1, -value-1, 64*coef*value, 64*coef*value+1, -64*coef*value, -64*coef*value-1) {
					for op := api.Le; op <= api.Ge; op++ {
						agrees(t, api.Con{Kind: api.Lin, Op: op, K: k, Terms: list}, d)
					}
				}
			}
		}
	}
	d := two(t)
	for _, k := range []int{math.MaxInt, 1 << 62, value + 1, 1 << 57} {
		expect(t, "at most a great K", lin(api.Le, k, 1, 0), d, "[]", true)
		expect(t, "at least a great K", lin(api.Ge, k, 1, 0), d, "[]", false)
		expect(t, "just a great K", lin(api.Eq, k, 1, 0), d, "[]", false)
		expect(t, "at least a K far below", lin(api.Ge, -k, 1, 0), d, "[]", true)
		expect(t, "at most a K far below", lin(api.Le, -k, 1, 0), d, "[]", false)
		expect(t, "just a K far below", lin(api.Eq, -k, 1, 0), d, "[]", false)
	}
	expect(t, "at least the least number", lin(api.Ge, math.MinInt, 1, 0), d, "[]", true)
	expect(t, "at most the least number", lin(api.Le, math.MinInt, 1, 0), d, "[]", false)
	expect(t, "just the least number", lin(api.Eq, math.MinInt, 1, 0), d, "[]", false)
}

// TestGreatSums: K within what the sum may be, and beyond a problem's.
func TestGreatSums(t *testing.T) { // P12.1, P12.3
	d := storeOf(t, [][2]int{{value - 63, value}})
	list := repeat(api.MaxTerms, api.Term{C: coef})
	great := api.MaxTerms * coef * (value - 10)
	expect(t, "at most", api.Con{Kind: api.Lin, Op: api.Le, K: great + 1, Terms: list}, d, fmt.Sprintf("[{2 0 %d}]", value-10), true)
	expect(t, "at least", api.Con{Kind: api.Lin, Op: api.Ge, K: great + 1, Terms: list}, d, fmt.Sprintf("[{1 0 %d}]", value-9), true)
	expect(t, "just", api.Con{Kind: api.Lin, Op: api.Eq, K: great, Terms: list}, d, fmt.Sprintf("[{1 0 %d} {2 0 %d}]", value-10, value-10), true)
	s := newSource(6)
	wide := storeOf(t, [][2]int{{value - 63, value}, {-value, 63 - value}, {-30, 30}})
	for range 300 {
		var list []api.Term
		for range 1 + s.Intn(api.MaxTerms) {
			list = append(list, api.Term{C: []int{coef, -coef, coef - 1, 1 - coef, 1 + s.Intn(coef)}[s.Intn(5)], X: s.Intn(3)})
		}
		agrees(t, api.Con{Kind: api.Lin, Op: api.Le + s.Intn(3), K: s.near(wide, list), Terms: list}, wide)
	}
}

func TestNumbersAtTheEnds(t *testing.T) { // P12.4 to P12.9
	high, low := [2]int{value - 63, value}, [2]int{-value, 63 - value}
	d := storeOf(t, [][2]int{high, {value, value}, low, {-value, -value}, {0, 1}, {0, 63}})
	for _, c := range []api.Con{
		{Kind: api.Ne, X: 0, Y: 1}, {Kind: api.Ne, X: 2, Y: 3}, {Kind: api.Ne, X: 5, Y: 1, K: -value}, {Kind: api.Ne, X: 3, Y: 5, K: -value},
		{Kind: api.Element, X: 5, Y: 0, Table: append(repeat(63, value), -value)}, {Kind: api.Element, X: 5, Y: 3, Table: repeat(63, -value)},
		{Kind: api.Max, Y: 0, Xs: []int{1, 2, 3}}, {Kind: api.Min, Y: 2, Xs: []int{3, 0, 1}},
		{Kind: api.Max, Y: 5, Xs: []int{0}}, {Kind: api.Min, Y: 5, Xs: []int{2}}, {Kind: api.Max, Y: 2, Xs: repeat(64, 3)}, {Kind: api.Min, Y: 0, Xs: repeat(64, 1)},
		{Kind: api.Reif, X: 4, K: value, Terms: terms(1, 0)}, {Kind: api.Reif, X: 4, K: -value, Terms: terms(coef, 0, -coef, 2)}, {Kind: api.Reif, X: 4, K: -value, Terms: terms(-coef, 0, coef, 2)},
		{Kind: api.Table, Xs: []int{0, 3}, Rows: [][]int{{value, -value}, {-value, value}}}, {Kind: api.Table, Xs: []int{0, 3}, Rows: repeat(64, []int{value - 5, -value})},
		{Kind: api.Count, Op: api.Ge, V: value, K: 2, Xs: []int{0, 1}}, {Kind: api.Count, Op: api.Le, V: -value, K: 1, Xs: []int{2, 3}},
		{Kind: api.Count, Op: api.Ge, V: 0, K: value, Xs: []int{5}}, {Kind: api.Count, Op: api.Le, V: 0, K: -value, Xs: []int{5}}, {Kind: api.Count, Op: api.Eq, V: value, K: 64, Xs: repeat(64, 0)},
	} {
		stands(t, "at the ends", c, d)
	}
	for _, c := range []api.Con{
		{Kind: api.Ne, X: 0, Y: 3, K: value}, {Kind: api.Ne, X: 2, Y: 1, K: -value},
		{Kind: api.Count, Op: api.Le, V: value, K: value, Xs: []int{0}}, {Kind: api.Count, Op: api.Ge, V: -value, K: -value, Xs: []int{0}},
	} {
		agrees(t, c, d)
	}
}

func TestListsAtTheirLimits(t *testing.T) { // P12.1
	d := hold(t)
	for _, c := range []api.Con{
		{Kind: api.Lin, Op: api.Le, K: 64, Terms: repeat(64, api.Term{C: 1})},
		{Kind: api.Element, X: 0, Y: 1, Table: repeat(64, 1)},
		{Kind: api.Max, Y: 1, Xs: repeat(64, 0)},
		{Kind: api.Min, Y: 1, Xs: repeat(64, 0)},
		{Kind: api.Reif, X: 0, K: 64, Terms: repeat(64, api.Term{C: 1})},
		{Kind: api.Table, Xs: repeat(8, 0), Rows: repeat(64, repeat(8, 1))},
		{Kind: api.Count, Op: api.Ge, V: 1, K: 64, Xs: repeat(64, 0)},
	} {
		stands(t, "at the limit", c, d)
	}
}

// TestEveryVariable: as many variables as there may be, each one by itself.
func TestEveryVariable(t *testing.T) { // P12.1, P12.2
	ends := repeat(api.MaxVars, [2]int{-31, 32})
	d := storeOf(t, ends)
	for x := range ends {
		expect(t, "by itself", lin(api.Eq, x, 1, x), d, fmt.Sprintf("[{1 %d %d} {2 %d %d}]", x, x, x, x), true)
		expect(t, "one past", lin(api.Eq, x, 1, x+api.MaxVars), d, "[]", true)
	}
	xs := make([]int, api.MaxVars)
	for i := range xs {
		xs[i] = api.MaxVars - 1 - i
	}
	l, ok := agrees(t, api.Con{Kind: api.Count, Op: api.Le, V: 32, K: 0, Xs: xs}, d)
	if !ok || len(l) != api.MaxVars || !slices.IsSortedFunc(l, func(a, b api.Cut) int { return a.X - b.X }) {
		t.Errorf("P12.2: %v, %v", l, ok)
	}
}

// TestNothingIsTouched: DOC.md, What holds everywhere, 3 and 6.
func TestNothingIsTouched(t *testing.T) {
	for i, c := range each() {
		d := hold(t)
		d.Mark()
		d.Cut(cut(not, 0, 2))
		before := d.Copy()
		c = roomy(c)
		text := fmt.Sprintf("%+v %v %v %v %v", c, c.Terms[:cap(c.Terms)], c.Xs[:cap(c.Xs)], c.Table[:cap(c.Table)], c.Rows[:cap(c.Rows)])
		one, ok := prop.Cuts(c, d)
		two, fine := prop.Cuts(c, d)
		if ok != fine || !slices.Equal(one, two) {
			t.Errorf("%d: %v, %v, and again %v, %v", i, one, ok, two, fine)
		}
		kept := slices.Clone(two)
		clear(one[:cap(one)])
		if three, _ := prop.Cuts(c, d); !slices.Equal(two, kept) || !slices.Equal(three, kept) {
			t.Errorf("%d: another answer is touched: %v, %v, was %v", i, two, three, kept)
		}
		if now := fmt.Sprintf("%+v %v %v %v %v", c, c.Terms[:cap(c.Terms)], c.Xs[:cap(c.Xs)], c.Table[:cap(c.Table)], c.Rows[:cap(c.Rows)]); now != text {
			t.Errorf("%d: %s, was %s", i, now, text)
		}
		if !dom.Same(d, before) || d.Back(1) || !d.Back(0) || d.Size(0) != 4 {
			t.Errorf("%d: the store: %s", i, shown(d))
		}
	}
}

// roomy: the same constraint, with something in the spare room of its lists.
func roomy(c api.Con) api.Con {
	c.Terms = append(slices.Clone(c.Terms), terms(9, 1, 8, 0)...)[:len(c.Terms)]
	c.Xs = append(slices.Clone(c.Xs), 1, 0, 1)[:len(c.Xs)]
	c.Table = append(slices.Clone(c.Table), 1, 2, 3)[:len(c.Table)]
	rows := c.Rows
	c.Rows = nil
	for _, row := range rows {
		c.Rows = append(c.Rows, append(slices.Clone(row), 1, 3)[:len(row)])
	}
	c.Rows = append(c.Rows, []int{1, 1})[:len(rows)]
	return c
}
