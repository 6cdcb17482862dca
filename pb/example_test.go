package pb_test

import (
	"fmt"
	"testing"

	"hallmark/api"
	"hallmark/big"
	"hallmark/pb"
)

func ExampleRow_Add() {
	a, _ := pb.Clause([]int{1, 2})
	b, e := pb.Of(api.Row{Pieces: []api.Piece{{C: "1", L: -1}, {C: "1", L: 2}}, Degree: "1"})
	if e != api.OK {
		return
	}
	sum := a.Add(b)
	fmt.Println(sum.Plain())
	fmt.Println(sum.Saturate().Plain())
	fmt.Println(sum.Holds(func(v int) bool { return v == 1 }))
	// Output:
	// {[{2 2}] 1}
	// {[{1 2}] 1}
	// false
}

// TestExamples: the chapter's.
func TestExamples(t *testing.T) { // P2.2, P2.5
	a, b, r := row(t, "1 x1 1 x2 >= 1"), row(t, "1 ~x1 1 x2 >= 1"), row(t, "3 x1 2 x2 >= 4")
	div, _ := r.Div(big.Of(2))
	for i, c := range []struct {
		got  pb.Row
		want string
	}{
		{row(t, "2 x1 -3 x2 1 ~x1 >= 0"), "1 x1 3 ~x2 >= 2"}, {row(t, "1 x1 1 ~x1 >= 1"), ">= 0"},
		{a.Add(b), "2 x2 >= 1"}, {a.Add(b).Saturate(), "1 x2 >= 1"}, {div, "2 x1 1 x2 >= 2"}, {r.Weaken(2), "3 x1 >= 2"}, {r.Negate(), "3 ~x1 2 ~x2 >= 2"},
		{pb.Row{}.Negate(), ">= 1"},
	} {
		if text(c.got) != c.want {
			t.Errorf("example %d: %s, want %s", i, text(c.got), c.want)
		}
	}
	if !(pb.Row{}).Negate().Contradiction() {
		t.Errorf("P2.4: the row without pieces, of degree 1, is a contradiction")
	}
}
