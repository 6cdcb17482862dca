package branch_test

import (
	"fmt"
	"testing"

	"hallmark/api"
	"hallmark/branch"
	"hallmark/dom"
)

func ExampleScript() {
	b := branch.New([]int{4, 5})
	fmt.Println(b.Next())
	c := b.Copy()
	fmt.Println(b.Next(), b.Next(), b.Next())
	fmt.Println(c.Next(), c.Next())
	// Output:
	// 4
	// 5 0 0
	// 5 0
}

func ExamplePick() {
	s := dom.New(api.Model{Vars: []api.Var{{Name: "x", Hi: 3}, {Name: "y", Lo: 7, Hi: 7}, {Name: "z", Lo: 1, Hi: 2}}})
	fmt.Println(branch.Pick(s, 0))
	fmt.Println(branch.Pick(s, 1))
	fmt.Println(branch.Pick(s, -2))
	// Output:
	// 0 1 true
	// 2 2 true
	// 0 3 true
}

// TestExamples: the chapter's.
func TestExamples(t *testing.T) { // P17.1, P17.2
	s := storeOf(t, [][2]int{{0, 3}, {7, 7}, {1, 2}})
	for _, e := range []struct{ n, x, k int }{{0, 0, 1}, {1, 2, 2}, {2, 0, 2}, {5, 2, 2}, {-1, 2, 2}, {-2, 0, 3}} {
		picks(t, s, e.n, e.x, e.k, true)
	}
	gives(t, branch.New([]int{4, 5}), 4, 5, 0, 0)
}
