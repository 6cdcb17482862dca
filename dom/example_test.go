package dom_test

import (
	"fmt"
	"slices"
	"testing"

	"hallmark/api"
	"hallmark/dom"
)

func ExampleStore() {
	s := dom.New(api.Model{Vars: []api.Var{{Name: "x", Lo: 0, Hi: 5}, {Name: "y", Lo: 7, Hi: 7}}})
	mark := s.Mark()
	fmt.Println(s.Cut(api.Cut{Kind: api.AtLeast, X: 0, V: 3}))
	fmt.Println(s.Cut(api.Cut{Kind: api.Not, X: 0, V: 4}))
	fmt.Println(s.Cut(api.Cut{Kind: api.Not, X: 1, V: 7}))
	fmt.Println(s.Values(0), s.Lo(0), s.Hi(0), s.Size(0), s.Has(0, 4), s.Open())
	fmt.Println(s.Back(mark), s.Values(0))
	// Output:
	// true true
	// true true
	// false false
	// [3 5] 3 5 2 false [0]
	// true [0 1 2 3 4 5]
}

// TestExamples: the chapter's.
func TestExamples(t *testing.T) { // P11.2 to P11.4
	s := made(t, api.Var{Name: "x", Lo: -2, Hi: 2})
	cut := func(kind, v int, went, ok bool) {
		t.Helper()
		if a, b := s.Cut(api.Cut{Kind: kind, V: v}); a != went || b != ok {
			t.Errorf("P11.3: Cut(%d, %d) = %v, %v; want %v, %v", kind, v, a, b, went, ok)
		}
	}
	values := func(want ...int) {
		t.Helper()
		if got := s.Values(0); !slices.Equal(got, want) {
			t.Errorf("P11.2: Values = %v, want %v", got, want)
		}
	}
	mark := func(want int) {
		t.Helper()
		if got := s.Mark(); got != want {
			t.Errorf("P11.4: Mark = %d, want %d", got, want)
		}
	}
	cut(api.AtLeast, -1, true, true)
	cut(api.Not, 0, true, true)
	values(-1, 1, 2)
	mark(0)
	cut(api.AtMost, 0, true, true)
	values(-1)
	cut(api.Not, -1, false, false)
	mark(1)
	if s.Back(2) {
		t.Error("P11.4: Back(2)")
	}
	values(-1)
	if !s.Back(0) {
		t.Error("P11.4: Back(0)")
	}
	values(-1, 1, 2)
	cut(api.Not, 0, false, true)
}
