package prop_test

import (
	"fmt"
	"testing"

	"hallmark/api"
	"hallmark/dom"
	"hallmark/prop"
)

func ExampleCuts() {
	d := dom.New(api.Model{Vars: []api.Var{{Name: "x", Hi: 3}, {Name: "y", Hi: 3}}})
	sum := api.Con{Kind: api.Lin, Op: api.Ge, K: 5, Terms: []api.Term{{C: 1, X: 0}, {C: 1, X: 1}}}
	table := api.Con{Kind: api.Table, Xs: []int{0, 1}, Rows: [][]int{{0, 1}, {3, 3}, {9, 0}}}
	fmt.Println(prop.Cuts(sum, d))
	fmt.Println(prop.Cuts(table, d))
	sum.K = 7
	fmt.Println(prop.Cuts(sum, d))
	// Output:
	// [{1 0 2} {1 1 2}] true
	// [{3 0 1} {3 0 2} {3 1 0} {3 1 2}] true
	// [] false
}

// TestExamples: the chapter's.
func TestExamples(t *testing.T) { // P12.3 to P12.9
	d := two(t)
	expect(t, "x + y at least 5", lin(api.Ge, 5, 1, 0, 1, 1), d, "[{1 0 2} {1 1 2}]", true)
	expect(t, "2x - 3y = 1", lin(api.Eq, 1, 2, 0, -3, 1), d, "[{1 0 1} {2 1 1}]", true)
	expect(t, "Ne with y just 2", api.Con{Kind: api.Ne, X: 0, Y: 1}, two(t, sure(1, 2)...), "[{3 0 2}]", true)
	expect(t, "Element", api.Con{Kind: api.Element, X: 0, Y: 1, Table: []int{2, 9, 0}}, d, "[{3 0 1} {3 0 3} {3 1 1} {3 1 3}]", true)
	expect(t, "Max with x at least 2", api.Con{Kind: api.Max, Y: 0, Xs: []int{1}}, two(t, cut(least, 0, 2)), "[{1 1 2}]", true)
	expect(t, "Reif", api.Con{Kind: api.Reif, X: 0, Terms: terms(1, 1), K: 3}, d, "[{1 0 1} {2 0 1}]", true)
	expect(t, "Table", api.Con{Kind: api.Table, Xs: []int{0, 1}, Rows: [][]int{{0, 1}, {3, 3}, {9, 0}}}, d, "[{3 0 1} {3 0 2} {3 1 0} {3 1 2}]", true)
	expect(t, "Count Ge", api.Con{Kind: api.Count, Xs: []int{0, 1, 1}, V: 2, Op: api.Ge, K: 2}, d, "[{1 1 2} {2 1 2}]", true)
	expect(t, "Count Le", api.Con{Kind: api.Count, Xs: []int{0, 1, 1}, V: 2, Op: api.Le, K: 1}, d, "[{3 1 2}]", true)
}
