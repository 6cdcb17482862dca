package hall_test

import (
	"fmt"
	"testing"

	"hallmark/api"
	"hallmark/dom"
	"hallmark/hall"
)

func ExampleCuts() {
	d := dom.New(api.Model{Vars: []api.Var{{Name: "x", Lo: 1, Hi: 2}, {Name: "y", Lo: 1, Hi: 2}, {Name: "z", Lo: 1, Hi: 4}}})
	causes, ok := hall.Cuts([]int{0, 1, 2}, d)
	for _, c := range causes {
		fmt.Println(c.Cut, "by", c.Hall.From, "to", c.Hall.To, "of", c.Hall.Xs)
	}
	fmt.Println(ok)
	// Output:
	// {3 2 1} by 1 to 2 of [0 1]
	// {3 2 2} by 1 to 2 of [0 1]
	// true
}

func ExampleFails() {
	d := dom.New(api.Model{Vars: []api.Var{{Name: "x", Lo: 1, Hi: 2}, {Name: "y", Lo: 1, Hi: 2}, {Name: "z", Lo: 1, Hi: 2}}})
	fmt.Println(hall.Fails([]int{0, 1, 2}, d))
	fmt.Println(hall.Fails([]int{0, 1}, d))
	// Output:
	// {1 2 [0 1 2]} true
	// {0 0 []} false
}

const (
	fine = "{0 0 []} false"
	bad  = "[] false"
	all4 = "[{0 {3 2 1} {1 2 [0 1]}} {0 {3 2 2} {1 2 [0 1]}} {0 {3 2 4} {4 4 [3]}}] true"
)

// TestExamples: the chapter's.
func TestExamples(t *testing.T) { // P13.2, P13.3
	d := example(t)
	expect(t, "x, y, z, w", []int{0, 1, 2, 3}, d, all4, fine)
	expect(t, "x, y, x", []int{0, 1, 0}, d, bad, "{1 2 [0 1 0]} true")
	expect(t, "w, w", []int{3, 3}, d, bad, "{4 4 [3 3]} true")
	expect(t, "z, z", []int{2, 2}, d, "[] true", fine)
}
