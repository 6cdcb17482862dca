package engine_test

import (
	"fmt"
	"testing"

	"hallmark/api"
	"hallmark/dom"
	"hallmark/engine"
)

func ExampleEngine_Run() {
	m := api.Model{
		Vars: []api.Var{{Name: "x", Hi: 3}, {Name: "y", Hi: 3}},
		Cons: []api.Con{
			{Kind: api.Lin, Op: api.Ge, K: 5, Terms: []api.Term{{C: 1, X: 0}, {C: 1, X: 1}}},
			{Kind: api.Ne, X: 0, Y: 1},
		},
	}
	s, e := dom.New(m), engine.New(m)
	causes, left, how := e.Run(s, 100)
	fmt.Println(causes, left, how == api.Still, s.Values(0), s.Values(1))
	s.Cut(api.Cut{Kind: api.AtLeast, X: 0, V: 3})
	causes, left, how = e.Run(s, left)
	fmt.Println(causes, left, how == api.Still, s.Values(0), s.Values(1))
	// Output:
	// [{0 {1 0 2} {0 0 []}} {0 {1 1 2} {0 0 []}}] 97 true [2 3] [2 3]
	// [{1 {3 1 3} {0 0 []}}] 93 true [3] [2]
}

func ExampleEngine_Below() {
	m := api.Model{
		Vars:    []api.Var{{Name: "x", Hi: 3}, {Name: "y", Hi: 3}},
		HasGoal: true,
		Goal:    []api.Term{{C: 1, X: 0}, {C: 1, X: 1}},
	}
	s, e := dom.New(m), engine.New(m)
	e.Below(2)
	e.Run(s, 100)
	fmt.Println(s.Values(0), s.Values(1))
	e.Below(0)
	_, _, how := e.Run(s, 100)
	fmt.Println(how == api.Failed, e.Cause().Con)
	// Output:
	// [0 1] [0 1]
	// true 0
}

const fine = "{0 {0 0 0} {0 0 []}}"

// TestExamples: the chapter's.
func TestExamples(t *testing.T) { // P14.2, P14.4
	m := two(lin(api.Ge, 5, 1, 0, 1, 1))
	expect(t, "example 1", m, storeOf(t, m), "[{0 {1 0 2} {0 0 []}} {0 {1 1 2} {0 0 []}}]", "[2 3][2 3]", api.Still, fine)
	m.Cons = append(m.Cons, unlike(0, 1, 0))
	s := storeOf(t, m)
	expect(t, "example 2", m, s, "[{0 {1 0 2} {0 0 []}} {0 {1 1 2} {0 0 []}}]", "[2 3][2 3]", api.Still, fine)
	s.Cut(cut(api.AtLeast, 0, 3))
	expect(t, "example 2, behind a cut", m, s, "[{1 {3 1 3} {0 0 []}}]", "[3][2]", api.Still, fine)
	m = two(lin(api.Ge, 7, 1, 0, 1, 1))
	expect(t, "example 3", m, storeOf(t, m), "[]", "[0 1 2 3][0 1 2 3]", api.Failed, fine)
	if l, left, how := engine.New(m).Run(storeOf(t, m), 0); len(l) > 0 || left != 0 || how != api.Out {
		t.Errorf("P14.2: without fuel: %v, %d, %d", l, left, how)
	}
}
