package number_test

import (
	"fmt"
	"slices"
	"testing"

	"hallmark/api"
	"hallmark/number"
)

func ExampleNew() {
	n := number.New(chapter())
	fmt.Println(n.Count(), n.Rows())
	fmt.Println(n.AtLeast(0, 2))
	fmt.Println(n.Is(1, 5))
	fmt.Println(n.Fact(api.Cut{Kind: api.Not, X: 0, V: 1}))
	fmt.Println(n.Solution([]int{1, 5}))
	// Output:
	// 8 12
	// 2 true
	// 7 true
	// [-1 2] true
	// [1 -2 -3 -4 5 -6 7 -8]
}

func ExampleNumber_Alone() {
	n := number.New(two(api.Con{Kind: api.AllDiff, Xs: []int{0, 1}}))
	fmt.Println(n.Rows())
	for v := -1; v <= 3; v++ {
		fmt.Println(n.Alone(0, v))
	}
	// Output:
	// 27
	// 0 false
	// 25 true
	// 26 true
	// 27 true
	// 0 false
}

// TestExamples: the chapter's.
func TestExamples(t *testing.T) { // P15.1, P15.3, P15.4
	n := number.New(chapter())
	for _, e := range []struct {
		what string
		got  func(a, b int) (int, bool)
		a, b int
		want int
	}{
		{"AtLeast", n.AtLeast, 0, 1, 1},
		{"AtLeast", n.AtLeast, 0, 2, 2},
		{"AtLeast", n.AtLeast, 0, 0, 0},
		{"AtLeast", n.AtLeast, 1, 6, 3},
		{"Is", n.Is, 0, 0, 4},
		{"Is", n.Is, 1, 5, 7},
	} {
		if got, ok := e.got(e.a, e.b); got != e.want || ok != (e.want > 0) {
			t.Errorf("%s(%d, %d): %d, %v", e.what, e.a, e.b, got, ok)
		}
	}
	if n.Count() != 8 {
		t.Errorf("Count: %d", n.Count())
	}
	for _, e := range []struct {
		kind, x, v int
		want       []int
		ok         bool
	}{
		{api.AtMost, 0, 1, []int{-2}, true},
		{api.Not, 0, 0, []int{1}, true},
		{api.Not, 0, 1, []int{-1, 2}, true},
		{api.AtLeast, 0, 0, nil, false},
		{api.AtLeast, 1, 7, nil, true},
	} {
		if got, ok := n.Fact(api.Cut{Kind: e.kind, X: e.x, V: e.v}); !slices.Equal(got, e.want) || ok != e.ok {
			t.Errorf("Fact of %+v: %v, %v", e, got, ok)
		}
	}
	if got := n.Solution([]int{1, 5}); !slices.Equal(got, []int{1, -2, -3, -4, 5, -6, 7, -8}) {
		t.Errorf("Solution: %v", got)
	}
}
