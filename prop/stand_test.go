package prop_test

import (
	"slices"
	"strings"
	"testing"

	"hallmark/api"
	"hallmark/dom"
)

// each: of each kind but AllDiff a constraint that takes something out of x and
// y from 0 to 3 behind hold's cuts, or fails.
func each() []api.Con {
	return []api.Con{
		lin(api.Ge, 5, 1, 0, 1, 1),
		{Kind: api.Ne, X: 0, Y: 1, K: 1},
		{Kind: api.Element, X: 0, Y: 1, Table: []int{2, 0}},
		{Kind: api.Max, Y: 1, Xs: []int{0, 0}},
		{Kind: api.Min, Y: 0, Xs: []int{1, 1}},
		{Kind: api.Reif, X: 0, Terms: terms(1, 0, 1, 1), K: 6},
		{Kind: api.Table, Xs: []int{0, 1}, Rows: [][]int{{0, 1}, {3, 2}}},
		{Kind: api.Count, Xs: []int{0, 1}, V: 3, Op: api.Le, K: 0},
	}
}

// hold: x from 0 to 3, y just 2.
func hold(t *testing.T) *dom.Store {
	t.Helper()
	return two(t, sure(1, 2)...)
}

// stands asks that a constraint isn't passed over.
func stands(t *testing.T, what string, c api.Con, d *dom.Store) {
	t.Helper()
	if l, ok := agrees(t, c, d); ok && len(l) == 0 {
		t.Errorf("P12.1: %s: %+v of %s takes nothing", what, c, shown(d))
	}
}

func TestEachStands(t *testing.T) { // P12.1
	for _, c := range each() {
		stands(t, "a right one", c, hold(t))
	}
}

func TestAllDiff(t *testing.T) { // P12.1
	for _, xs := range [][]int{{0, 1}, {1, 0, 1}, {1, 1}} {
		c := api.Con{Kind: api.AllDiff, Xs: xs}
		expect(t, "P12.1", c, hold(t), "[]", true)
		expect(t, "P12.1", c, two(t, append(sure(0, 2), sure(1, 2)...)...), "[]", true)
	}
}

// TestNoVariables: a right problem has one at least.
func TestNoVariables(t *testing.T) { // P12.1
	none := dom.New(api.Model{})
	for _, c := range append(each(), api.Con{Kind: api.Ne}, lin(api.Le, 0, 1, 0), api.Con{}) {
		expect(t, "P12.1", c, none, "[]", true)
	}
}

// TestOneVariableLess: what may stand hangs on how many variables there are.
func TestOneVariableLess(t *testing.T) { // P12.1
	for _, c := range each() {
		expect(t, "P12.1: a store of one variable", c, storeOf(t, [][2]int{{0, 3}}), "[]", true)
	}
}

// faults: what a constraint becomes by each fault that its kind can have.
type faults struct {
	api.Con
	found []fault
}

type fault struct {
	what string
	c    api.Con
}

// put notes a copy that is changed.
func (f *faults) put(what string, change func(c *api.Con)) {
	w := f.Con
	w.Terms, w.Xs, w.Table, w.Rows = slices.Clone(w.Terms), slices.Clone(w.Xs), slices.Clone(w.Table), slices.Clone(w.Rows)
	for i, row := range w.Rows {
		w.Rows[i] = slices.Clone(row)
	}
	change(&w)
	f.found = append(f.found, fault{what, w})
}

// has tells whether the kind has a field.
func (f *faults) has(field string) bool {
	fields := map[int]string{
		api.Lin: "Op Terms K", api.Ne: "X Y K", api.Element: "X Y Table", api.Max: "Y Xs", api.Min: "Y Xs",
		api.Reif: "X Terms K", api.Table: "Xs Rows", api.Count: "Op Xs V K",
	}
	return slices.Contains(strings.Fields(fields[f.Kind]), field)
}

func (f *faults) kinds() {
	for _, n := range append(far(), 0, -1, 10) {
		f.put("a kind that is none", func(c *api.Con) { c.Kind = n })
	}
	for _, n := range append(far(), 0, -1, 4) {
		if f.has("Op") {
			f.put("an operator that is none", func(c *api.Con) { c.Op = n })
		}
	}
}

func (f *faults) places() {
	for _, n := range append(far(), -1, -2, 2, 3, api.MaxVars) {
		if f.has("X") {
			f.put("an X that is none", func(c *api.Con) { c.X = n })
		}
		if f.has("Y") {
			f.put("a Y that is none", func(c *api.Con) { c.Y = n })
		}
		for i := range f.Terms {
			f.put("a term's X that is none", func(c *api.Con) { c.Terms[i].X = n })
		}
		for i := range f.Xs {
			f.put("one of Xs that is none", func(c *api.Con) { c.Xs[i] = n })
		}
	}
}

// numbers: those that are too great; a Lin's K isn't.
func (f *faults) numbers() {
	for _, n := range append(far(), api.MaxValue+1, -api.MaxValue-1) {
		if f.has("K") && f.Kind != api.Lin {
			f.put("a K that is too great", func(c *api.Con) { c.K = n })
		}
		if f.has("V") {
			f.put("a V that is too great", func(c *api.Con) { c.V = n })
		}
		for i := range f.Table {
			f.put("a number that is too great", func(c *api.Con) { c.Table[i] = n })
		}
		for i := range f.Rows {
			f.put("a row's number that is too great", func(c *api.Con) { c.Rows[i][1] = n })
		}
	}
	for _, n := range append(far(), 0, api.MaxCoef+1, -api.MaxCoef-1) {
		for i := range f.Terms {
			f.put("a coefficient that can't be", func(c *api.Con) { c.Terms[i].C = n })
		}
	}
}

// fields: those that the kind hasn't.
func (f *faults) fields() {
	for field, change := range map[string]func(c *api.Con){
		"Op": func(c *api.Con) { c.Op = api.Le }, "X": func(c *api.Con) { c.X = 1 }, "Y": func(c *api.Con) { c.Y = 1 },
		"K": func(c *api.Con) { c.K = 1 }, "V": func(c *api.Con) { c.V = 1 },
		"Terms": func(c *api.Con) { c.Terms = terms(1, 0) }, "Xs": func(c *api.Con) { c.Xs = []int{0} },
		"Table": func(c *api.Con) { c.Table = []int{0} }, "Rows": func(c *api.Con) { c.Rows = [][]int{{}} },
	} {
		if !f.has(field) {
			f.put("it hasn't "+field, change)
		}
	}
}

// lengths: lists that are empty, or too long.
func (f *faults) lengths() {
	if len(f.Terms) > 0 {
		f.put("no terms", func(c *api.Con) { c.Terms = c.Terms[:0] })
		f.put("too many terms", func(c *api.Con) { c.Terms = repeat(api.MaxTerms+1, c.Terms[0]) })
	}
	if len(f.Table) > 0 {
		f.put("no numbers", func(c *api.Con) { c.Table = nil })
		f.put("too many numbers", func(c *api.Con) { c.Table = repeat(api.MaxTerms+1, 2) })
	}
	if len(f.Rows) > 0 {
		f.put("no rows", func(c *api.Con) { c.Rows = nil })
		f.put("too many rows", func(c *api.Con) { c.Rows = repeat(api.MaxTerms+1, c.Rows[0]) })
		f.put("a row that is too short", func(c *api.Con) { c.Rows[1] = c.Rows[1][:1] })
		f.put("a row that is too long", func(c *api.Con) { c.Rows[0] = append(c.Rows[0], 0) })
		f.put("an empty row", func(c *api.Con) { c.Rows[0] = nil })
		f.put("too many places", func(c *api.Con) { c.Xs, c.Rows = repeat(api.MaxCols+1, 0), repeat(1, repeat(api.MaxCols+1, 1)) })
	}
	if len(f.Xs) > 0 {
		f.put("no variables", func(c *api.Con) { c.Xs = nil })
		f.put("too many variables", func(c *api.Con) { c.Xs = repeat(api.MaxTerms+1, 0) })
	}
}

func TestWhatCouldNotStand(t *testing.T) { // P12.1
	for _, c := range each() {
		f := &faults{Con: c}
		f.kinds()
		f.places()
		f.numbers()
		f.fields()
		f.lengths()
		for _, w := range f.found {
			expect(t, "P12.1: "+w.what, w.c, hold(t), "[]", true)
		}
	}
	for _, c := range []api.Con{{Kind: api.AllDiff}, {Kind: api.AllDiff, Xs: []int{2}}, {Kind: api.AllDiff, Xs: []int{0}, K: 1}} {
		expect(t, "P12.1", c, hold(t), "[]", true)
	}
}
