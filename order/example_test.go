package order_test

import (
	"fmt"
	"testing"

	"hallmark/api"
	"hallmark/order"
)

func ExampleNew() {
	o, e := order.New(two(api.Con{Kind: api.AllDiff, Xs: []int{1, 1}}))
	fmt.Println(o.Count(), e == api.OK)
	fmt.Println(o.AtLeast(1, 0))
	fmt.Println(o.Is(1, -1))
	fmt.Println(o.Of(7))
	set, _ := o.Assignment([]int{2, -1})
	fmt.Println(set)
	fmt.Println(o.Values(set))
	// Output:
	// 10 true
	// 4 1
	// 7 1
	// {1 -1 true 0 0 false} true
	// [true true false false false false true false false false]
	// [2 -1] true
}

// TestExamples: the chapter's.
func TestExamples(t *testing.T) { // P6.1 to P6.5
	o := made(t, two(api.Con{Kind: api.AllDiff, Xs: []int{1, 1}}))
	if o.Count() != 10 {
		t.Errorf("Count %d", o.Count())
	}
	for _, e := range []struct{ x, k, n, what int }{{0, 1, 1, api.Lit}, {0, 3, 3, api.Lit}, {0, 0, 0, api.True}, {0, 4, 0, api.False}, {1, 0, 4, api.Lit}} {
		if n, what := o.AtLeast(e.x, e.k); n != e.n || what != e.what {
			t.Errorf("AtLeast(%d, %d) = %d, %d", e.x, e.k, n, what)
		}
	}
	for _, e := range []struct{ x, v, n, what int }{{1, -1, 7, api.Lit}, {1, 2, 10, api.Lit}, {1, 3, 0, api.False}, {0, 1, 0, 0}} {
		if n, what := o.Is(e.x, e.v); n != e.n || what != e.what {
			t.Errorf("Is(%d, %d) = %d, %d", e.x, e.v, n, what)
		}
	}
	for n, want := range map[int]api.Mean{5: {X: 1, V: 1}, 7: {X: 1, V: -1, Is: true}} {
		if got, ok := o.Of(n); got != want || !ok {
			t.Errorf("Of(%d) = %+v, %v", n, got, ok)
		}
	}
	if got, ok := o.Of(11); got != (api.Mean{}) || ok {
		t.Errorf("Of(11) = %+v, %v", got, ok)
	}
	set, ok := o.Assignment([]int{2, -1})
	for i, is := range set {
		if n := i + 1; is != (n == 1 || n == 2 || n == 7) {
			t.Errorf("Assignment(2, -1): %d is %v", n, is)
		}
	}
	if values, told := o.Values(set); !ok || !told || fmt.Sprint(values) != "[2 -1]" {
		t.Errorf("Values of it: %v, %v, %v", values, ok, told)
	}
}
