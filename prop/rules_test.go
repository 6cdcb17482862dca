package prop_test

import (
	"testing"

	"hallmark/api"
	"hallmark/dom"
)

const (
	least = api.AtLeast
	most  = api.AtMost
	not   = api.Not
)

// seen: how often a kind failed, took nothing, and made cuts of each kind.
type seen struct{ failed, nothing, least, most, not int }

func (n *seen) note(l []api.Cut, ok bool) {
	switch {
	case !ok:
		n.failed++
	case len(l) == 0:
		n.nothing++
	}
	for _, c := range l {
		switch c.Kind {
		case least:
			n.least++
		case most:
			n.most++
		case not:
			n.not++
		}
	}
}

func TestByWords(t *testing.T) { // P12.1 to P12.9
	s := newSource(1)
	var kinds [api.Count + 1]seen
	for range 4000 {
		d := s.store(t, 4, 7)
		for kind := api.Lin; kind <= api.Count; kind++ {
			c := s.con(kind, d)
			l, ok := agrees(t, c, d)
			kinds[kind].note(l, ok)
		}
	}
	for kind, few := range map[int]seen{
		api.Lin:     {200, 200, 200, 200, 10},
		api.Ne:      {50, 200, 0, 0, 200},
		api.AllDiff: {0, 4000, 0, 0, 0},
		api.Element: {0, 50, 0, 0, 200},
		api.Max:     {200, 200, 200, 200, 10},
		api.Min:     {200, 200, 200, 200, 10},
		api.Reif:    {100, 200, 200, 200, 10},
		api.Table:   {50, 50, 0, 0, 200},
		api.Count:   {200, 200, 100, 100, 200},
	} {
		n := kinds[kind]
		if n.failed < few.failed || n.nothing < few.nothing || n.least < few.least || n.most < few.most || n.not < few.not {
			t.Errorf("kind %d: too few to tell: %+v", kind, n)
		}
	}
}

func TestManyVariablesByWords(t *testing.T) { // P12.1 to P12.9
	s := newSource(2)
	for range 200 {
		d := s.store(t, api.MaxVars, api.MaxDomain)
		for kind := api.Lin; kind <= api.Count; kind++ {
			agrees(t, s.con(kind, d), d)
		}
	}
}

func TestWhatIsTold(t *testing.T) { // P12.2
	c := lin(api.Eq, 5, 2, 0, 1, 1) // 2x + y = 5: x from 1 to 2
	expect(t, "least ahead of greatest", c, two(t), "[{1 0 1} {2 0 2}]", true)
	expect(t, "the least one that stays", c, two(t, cut(not, 0, 1)), "[{1 0 2} {2 0 2}]", true)
	expect(t, "nothing stays of an interval", c, two(t, cut(not, 0, 1), cut(not, 0, 2)), "[{3 0 0} {3 0 3}]", true)
	expect(t, "variables rise, whatever the order of terms", lin(api.Ge, 5, 1, 1, 1, 0), two(t), "[{1 0 2} {1 1 2}]", true)
	table := api.Con{Kind: api.Table, Xs: []int{1, 0}, Rows: [][]int{{3, 2}, {1, 0}}}
	expect(t, "variables rise, whatever the order of places", table, two(t), "[{3 0 1} {3 0 3} {3 1 0} {3 1 2}]", true)
	table = api.Con{Kind: api.Table, Xs: []int{0, 0}, Rows: [][]int{{0, 1}, {2, 3}}}
	expect(t, "nothing stays of some values", table, two(t), "[{3 0 0} {3 0 1} {3 0 2} {3 0 3}]", true)
}

func TestLin(t *testing.T) { // P12.3
	d := two(t)
	expect(t, "2x <= 5", lin(api.Le, 5, 2, 0), d, "[{2 0 2}]", true)
	expect(t, "2x >= 3", lin(api.Ge, 3, 2, 0), d, "[{1 0 2}]", true)
	expect(t, "-2x <= -3", lin(api.Le, -3, -2, 0), d, "[{1 0 2}]", true)
	expect(t, "-2x >= -5", lin(api.Ge, -5, -2, 0), d, "[{2 0 2}]", true)
	expect(t, "just what there is", lin(api.Le, 0, 1, 0, 1, 1), d, "[{2 0 0} {2 1 0}]", true)
	expect(t, "one less", lin(api.Le, -1, 1, 0, 1, 1), d, "[]", false)
	expect(t, "as much as there is", lin(api.Ge, 6, 1, 0, 1, 1), d, "[{1 0 3} {1 1 3}]", true)
	expect(t, "one more", lin(api.Ge, 7, 1, 0, 1, 1), d, "[]", false)
	expect(t, "Eq fails as Le does", lin(api.Eq, -1, 1, 0, 1, 1), d, "[]", false)
	expect(t, "Eq fails as Ge does", lin(api.Eq, 7, 1, 0, 1, 1), d, "[]", false)
	expect(t, "2x = 3 by both", lin(api.Eq, 3, 2, 0), d, "[{3 0 0} {3 0 1} {3 0 2} {3 0 3}]", true)
	expect(t, "x + x + y <= 3", lin(api.Le, 3, 1, 0, 1, 1, 1, 0), d, "[{2 0 1}]", true)
	expect(t, "x - x <= 0", lin(api.Le, 0, 1, 0, -1, 0), d, "[]", true)
	expect(t, "x - x <= -1", lin(api.Le, -1, 1, 0, -1, 0), d, "[]", false)
	expect(t, "both from what is there", lin(api.Eq, 0, 1, 0, -2, 1), d, "[{2 1 1}]", true) // not x at most 2
}

func TestNe(t *testing.T) { // P12.4
	ne := func(x, y, k int) api.Con { return api.Con{Kind: api.Ne, X: x, Y: y, K: k} }
	oneX, oneY := two(t, sure(0, 1)...), two(t, sure(1, 1)...)
	expect(t, "both open", ne(0, 1, 0), two(t), "[]", true)
	expect(t, "x isn't y + 2", ne(0, 1, 2), oneY, "[{3 0 3}]", true)
	expect(t, "x isn't y - 1", ne(0, 1, -1), oneY, "[{3 0 0}]", true)
	expect(t, "x isn't y + 3, which it can't be", ne(0, 1, 3), oneY, "[]", true)
	expect(t, "y isn't x - 1", ne(0, 1, 1), oneX, "[{3 1 0}]", true)
	expect(t, "y isn't x + 2", ne(0, 1, -2), oneX, "[{3 1 3}]", true)
	expect(t, "both have one, and they differ", ne(0, 1, 0), two(t, append(sure(0, 1), sure(1, 2)...)...), "[]", true)
	expect(t, "both have one, and it is that", ne(0, 1, -1), two(t, append(sure(0, 1), sure(1, 2)...)...), "[{3 0 1} {3 1 2}]", true)
	expect(t, "x isn't x", ne(1, 1, 0), two(t), "[]", false)
	expect(t, "x isn't x, of one value", ne(1, 1, 0), oneY, "[]", false)
	expect(t, "x isn't x + 1", ne(1, 1, 1), oneY, "[]", true)
}

func TestElement(t *testing.T) { // P12.5
	element := func(x, y int, table ...int) api.Con { return api.Con{Kind: api.Element, X: x, Y: y, Table: table} }
	d := storeOf(t, [][2]int{{-1, 2}, {0, 3}})
	expect(t, "below 0, and beyond the table", element(0, 1, 3, 3), d, "[{3 0 -1} {3 0 2} {3 1 0} {3 1 1} {3 1 2}]", true)
	expect(t, "a number that y hasn't", element(0, 1, 0, 9, 2), d, "[{3 0 -1} {3 0 1} {3 1 1} {3 1 3}]", true)
	expect(t, "a place that x hasn't", element(0, 1, 0, 1, 2), storeOf(t, [][2]int{{0, 2}, {0, 2}}, cut(not, 0, 1)), "[{3 1 1}]", true)
	expect(t, "none: it doesn't fail", element(0, 1, 9), two(t, sure(0, 0)...), "[{3 0 0} {3 1 0} {3 1 1} {3 1 2} {3 1 3}]", true)
	expect(t, "x at its own place", element(0, 0, 1, 0, 2), two(t), "[{3 0 3}]", true)
	expect(t, "what stays by both", element(0, 0, 1, 2, 9, 9), two(t), "[{3 0 0} {3 0 2} {3 0 3}]", true)
}

func TestMaxAndMin(t *testing.T) { // P12.6
	of := func(kind, y int, xs ...int) api.Con { return api.Con{Kind: kind, Y: y, Xs: xs} }
	three := func(cuts ...api.Cut) *dom.Store { return storeOf(t, [][2]int{{-9, 9}, {2, 5}, {1, 7}}, cuts...) }
	expect(t, "of y", of(api.Max, 0, 1, 2), three(), "[{1 0 2} {2 0 7}]", true)
	expect(t, "of y", of(api.Min, 0, 1, 2), three(), "[{1 0 1} {2 0 5}]", true)
	expect(t, "of xs", of(api.Max, 0, 1, 2), three(cut(most, 0, 4)), "[{1 0 2} {2 1 4} {2 2 4}]", true)
	expect(t, "of xs", of(api.Min, 0, 1, 2), three(cut(least, 0, 3)), "[{2 0 5} {1 1 3} {1 2 3}]", true)
	expect(t, "two reach it", of(api.Max, 0, 1, 2), three(cut(least, 0, 5)), "[{2 0 7}]", true)
	expect(t, "one reaches it", of(api.Max, 0, 1, 2), three(cut(least, 0, 6)), "[{2 0 7} {1 2 6}]", true)
	expect(t, "two reach it", of(api.Min, 0, 1, 2), three(cut(most, 0, 2)), "[{1 0 1}]", true)
	expect(t, "one reaches it", of(api.Min, 0, 1, 2), three(cut(most, 0, 1)), "[{1 0 1} {2 2 1}]", true)
	expect(t, "one that stands there twice", of(api.Max, 0, 2, 1, 2), three(cut(least, 0, 6)), "[{2 0 7} {1 2 6}]", true)
	expect(t, "one that stands there twice", of(api.Min, 0, 2, 1, 2), three(cut(most, 0, 1)), "[{1 0 1} {2 2 1}]", true)
	expect(t, "none reaches it", of(api.Max, 0, 1, 2), three(cut(least, 0, 8)), "[]", false)
	expect(t, "one is above it", of(api.Max, 0, 1, 2), three(cut(most, 0, 1)), "[]", false)
	expect(t, "none reaches it", of(api.Min, 0, 1, 2), three(cut(most, 0, 0)), "[]", false)
	expect(t, "one is below it", of(api.Min, 0, 1, 2), three(cut(least, 0, 6)), "[]", false)
	expect(t, "y is one of xs", of(api.Max, 2, 1, 2), three(), "[{1 2 2}]", true)
	expect(t, "y is one of xs", of(api.Min, 1, 1, 2), three(), "[{1 2 2}]", true)
	expect(t, "y is all of xs", of(api.Max, 2, 2, 2), three(), "[]", true)
	expect(t, "a hole", of(api.Max, 0, 1), three(cut(most, 1, 4), cut(not, 0, 2), cut(not, 0, 3), cut(not, 0, 4)),
		"[{3 0 -9} {3 0 -8} {3 0 -7} {3 0 -6} {3 0 -5} {3 0 -4} {3 0 -3} {3 0 -2} {3 0 -1} {3 0 0} {3 0 1} {3 0 5} {3 0 6} {3 0 7} {3 0 8} {3 0 9}]", true)
}

func TestReif(t *testing.T) { // P12.7
	reif := func(x, k int, pairs ...int) api.Con {
		return api.Con{Kind: api.Reif, X: x, K: k, Terms: terms(pairs...)}
	}
	d := storeOf(t, [][2]int{{0, 1}, {0, 3}, {0, 3}})
	wide := storeOf(t, [][2]int{{-1, 2}, {0, 3}})
	expect(t, "open", reif(0, 3, 1, 1, 1, 2), d, "[]", true)
	expect(t, "from 0 to 1", reif(0, 2, 1, 1), wide, "[{1 0 0} {2 0 1}]", true)
	expect(t, "just 1", reif(0, 6, 1, 1, 1, 2), d, "[{1 0 1}]", true)
	expect(t, "one less", reif(0, 5, 1, 1, 1, 2), d, "[]", true)
	expect(t, "just 0", reif(0, -1, 1, 1, 1, 2), d, "[{2 0 0}]", true)
	expect(t, "one more", reif(0, 0, 1, 1, 1, 2), d, "[]", true)
	expect(t, "just 1 of more", reif(0, 3, 1, 1), wide, "[{1 0 1} {2 0 1}]", true)
	expect(t, "just 1, which isn't there", reif(0, 3, 1, 1), storeOf(t, [][2]int{{-1, 2}, {0, 3}}, cut(not, 0, 1)), "[{3 0 -1} {3 0 0} {3 0 2}]", true)
	expect(t, "neither 0 nor 1", reif(0, 3, 1, 1), storeOf(t, [][2]int{{-1, 2}, {0, 3}}, cut(not, 0, 1), cut(not, 0, 0)), "[]", false)
	expect(t, "1 says at most", reif(0, 1, 1, 1, 1, 2), storeOf(t, [][2]int{{1, 1}, {0, 3}, {0, 3}}), "[{2 1 1} {2 2 1}]", true)
	expect(t, "1 says what can't be", reif(0, -1, 1, 1), storeOf(t, [][2]int{{1, 1}, {0, 3}}), "[]", false)
	expect(t, "0 says more", reif(0, 4, 1, 1, 1, 2), storeOf(t, [][2]int{{0, 0}, {0, 3}, {0, 3}}), "[{1 1 2} {1 2 2}]", true)
	expect(t, "0 says what can't be", reif(0, 3, 1, 1), storeOf(t, [][2]int{{0, 0}, {0, 3}}), "[]", false)
	expect(t, "1 of two says nothing of the sum", reif(0, 2, 1, 1), storeOf(t, [][2]int{{1, 2}, {0, 3}}), "[{2 0 1}]", true)
	expect(t, "x in its own sum", reif(0, 0, 1, 0, 1, 1), storeOf(t, [][2]int{{1, 1}, {-1, 3}}), "[{2 1 -1}]", true)
	expect(t, "x in its own sum: nothing stays", reif(0, 0, 5, 0), storeOf(t, [][2]int{{1, 1}}), "[]", false)
}

func TestTable(t *testing.T) { // P12.8
	table := func(xs []int, rows ...[]int) api.Con { return api.Con{Kind: api.Table, Xs: xs, Rows: rows} }
	xy := []int{0, 1}
	expect(t, "all stay", table(xy, []int{0, 3}, []int{1, 2}, []int{2, 1}, []int{3, 0}), two(t), "[]", true)
	expect(t, "a row that is dead at one place", table(xy, []int{0, 4}, []int{1, 2}), two(t), "[{3 0 0} {3 0 2} {3 0 3} {3 1 0} {3 1 1} {3 1 3}]", true)
	expect(t, "a row that dies by a hole", table(xy, []int{0, 3}, []int{1, 2}), two(t, cut(not, 0, 0)), "[{3 0 2} {3 0 3} {3 1 0} {3 1 1} {3 1 3}]", true)
	expect(t, "none is alive", table(xy, []int{0, 4}, []int{4, 0}), two(t), "[]", false)
	expect(t, "a row twice", table(xy, []int{1, 2}, []int{1, 2}), two(t, append(sure(0, 1), sure(1, 2)...)...), "[]", true)
	expect(t, "alive, though a variable can't be both", table([]int{0, 0}, []int{1, 2}), two(t, cut(least, 0, 1), cut(most, 0, 2)), "[{3 0 1} {3 0 2}]", true)
}

func TestCount(t *testing.T) { // P12.9
	count := func(op, k, v int, xs ...int) api.Con { return api.Con{Kind: api.Count, Op: op, K: k, V: v, Xs: xs} }
	three := func(cuts ...api.Cut) *dom.Store { return storeOf(t, [][2]int{{0, 3}, {0, 3}, {0, 3}}, cuts...) }
	one := three(sure(0, 2)...)
	expect(t, "at most 1, and it is there", count(api.Le, 1, 2, 0, 1, 2), one, "[{3 1 2} {3 2 2}]", true)
	expect(t, "at most 2, and one is there", count(api.Le, 2, 2, 0, 1, 2), one, "[]", true)
	expect(t, "at most 2, of one that stands twice", count(api.Le, 2, 2, 0, 1, 1, 2), one, "[{3 1 2}]", true)
	expect(t, "at most 0", count(api.Le, 0, 2, 0, 1), one, "[]", false)
	expect(t, "at most 0 of none yet", count(api.Le, 0, 2, 1, 2), one, "[{3 1 2} {3 2 2}]", true)
	expect(t, "less than none", count(api.Le, -1, 2, 1, 2), one, "[]", false)
	expect(t, "at least 2 of 3", count(api.Ge, 2, 2, 0, 1, 2), one, "[]", true)
	expect(t, "at least 3 of 3", count(api.Ge, 3, 2, 0, 1, 2), one, "[{1 1 2} {2 1 2} {1 2 2} {2 2 2}]", true)
	expect(t, "at least 4 of 3", count(api.Ge, 4, 2, 0, 1, 2), one, "[]", false)
	expect(t, "at least 2, of one that can't", count(api.Ge, 2, 2, 0, 1, 2), three(cut(not, 1, 2)), "[{1 0 2} {2 0 2} {1 2 2} {2 2 2}]", true)
	expect(t, "at least 1 of a value that none has", count(api.Ge, 1, 9, 0, 1), one, "[]", false)
	expect(t, "just 1, by at most", count(api.Eq, 1, 2, 0, 1, 2), one, "[{3 1 2} {3 2 2}]", true)
	expect(t, "just 3, by at least: an interval", count(api.Eq, 3, 2, 0, 1, 2), one, "[{1 1 2} {2 1 2} {1 2 2} {2 2 2}]", true)
	expect(t, "just 0, and one is there", count(api.Eq, 0, 2, 0, 1), one, "[]", false)
	expect(t, "just 3 of 2", count(api.Eq, 3, 2, 0, 1), one, "[]", false)
	expect(t, "just 1 of two places of one", count(api.Eq, 1, 2, 1, 1), one, "[{3 1 0} {3 1 1} {3 1 2} {3 1 3}]", true)
	expect(t, "the least value: an interval of one end", count(api.Ge, 1, 0, 1), one, "[{2 1 0}]", true)
}
