package model_test

import (
	"fmt"
	"testing"

	"hallmark/api"
	"hallmark/model"
)

func ExampleSolution() {
	m := api.Model{
		Vars:    []api.Var{{Name: "x", Lo: 0, Hi: 3}, {Name: "y", Lo: -1, Hi: 2}},
		Cons:    []api.Con{{Kind: api.Lin, Op: api.Le, Terms: []api.Term{{C: 2, X: 0}, {C: -1, X: 1}}, K: 4}},
		HasGoal: true,
		Goal:    []api.Term{{C: 3, X: 0}, {C: -2, X: 1}},
	}
	fmt.Println(model.Check(m))
	fmt.Println(model.Solution(m, []int{3, 2}), model.Worth(m, []int{3, 2}))
	fmt.Println(model.Solution(m, []int{3, 1}))
	fmt.Println(model.Floor(m), model.Ceil(m))
	fmt.Println(model.Product(m, 16))
	// Output:
	// 0 hallmark: error 0
	// true 5
	// false
	// -4 11
	// 16 true
}

// TestExamples: the chapter's.
func TestExamples(t *testing.T) { // P4.3, P4.4, P4.6, P4.7
	c := one()
	for _, e := range []struct {
		kind, x, y int
		want       bool
	}{
		{api.Lin, 2, 0, true}, {api.Lin, 3, 2, true}, {api.Lin, 3, 1, false},
		{api.Ne, 1, 0, false}, {api.Ne, 0, 1, true},
		{api.Element, 0, 2, true}, {api.Element, 1, 0, true}, {api.Element, 2, 2, false},
		{api.Max, 2, 2, true},
		{api.Reif, 1, 0, true}, {api.Reif, 0, 1, false}, {api.Reif, 0, 2, true}, {api.Reif, 2, 2, false},
		{api.Table, 3, -1, true}, {api.Table, 0, -1, false},
		{api.Count, 0, 2, true}, {api.Count, 2, 2, false},
	} {
		if got := model.Holds(c[e.kind], []int{e.x, e.y}); got != e.want {
			t.Errorf("kind %d of %d, %d: %v", e.kind, e.x, e.y, got)
		}
	}

	m := withGoal(two(), terms(3, -2))
	if model.Floor(m) != -4 || model.Ceil(m) != 11 {
		t.Errorf("Floor %d, Ceil %d", model.Floor(m), model.Ceil(m))
	}
	if n, ok := model.Product(m, 16); n != 16 || !ok {
		t.Errorf("Product %d, %v", n, ok)
	}
	if n, ok := model.Product(m, 15); n != 0 || ok {
		t.Errorf("Product, at most 15: %d, %v", n, ok)
	}

	m = two()
	m.Vars[0].Name = "9a"
	expect(t, "9a", m, 0, api.ErrModelName)
	m = two()
	m.Vars[0].Hi = 64
	expect(t, "0 to 64", m, 0, api.ErrModelBounds)
	expect(t, "a Lin without terms", two(api.Con{Kind: api.Lin, Op: api.Le}), 2, api.ErrModelMany)
	expect(t, "a Ne with a Table", two(api.Con{Kind: api.Ne, Y: 1, Table: []int{1}}), 2, api.ErrModelField)
}
