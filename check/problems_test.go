package check_test

import (
	"fmt"
	"math/rand"
	"testing"

	"hallmark/api"
	"hallmark/model"
	problem "hallmark/text"
)

// source makes small problems, of which all values can be gone through, logs
// of them, and other logs out of these.
type source struct{ *rand.Rand }

func newSource() source { return source{rand.New(rand.NewSource(10))} }

func (s source) one(list ...int) int { return list[s.Intn(len(list))] }

func (s source) terms(vars int) []api.Term {
	var list []api.Term
	for range 1 + s.Intn(3) {
		list = append(list, api.Term{C: s.one(1, 1, 1, -1, -1, 2, -3), X: s.Intn(vars)})
	}
	return list
}

func (s source) places(vars int) []int {
	var list []int
	for range 1 + s.Intn(3) {
		list = append(list, s.Intn(vars))
	}
	return list
}

func (s source) numbers(n int) []int {
	list := make([]int, n)
	for i := range list {
		list[i] = s.Intn(5) - 1
	}
	return list
}

// con: of the kinds in turn, so that each comes often.
func (s source) con(kind, vars int) api.Con {
	x, y, xs, op, k := s.Intn(vars), s.Intn(vars), s.places(vars), s.one(api.Le, api.Eq, api.Ge), s.Intn(5)-1
	switch kind {
	case api.Lin:
		return api.Con{Kind: kind, Op: op, Terms: s.terms(vars), K: k}
	case api.Ne:
		return api.Con{Kind: kind, X: x, Y: y, K: s.Intn(3) - 1}
	case api.Element:
		return api.Con{Kind: kind, X: x, Y: y, Table: s.numbers(1 + s.Intn(4))}
	case api.Max, api.Min:
		return api.Con{Kind: kind, Y: y, Xs: xs}
	case api.Reif:
		return api.Con{Kind: kind, X: x, Terms: s.terms(vars), K: k}
	case api.Table:
		c := api.Con{Kind: kind, Xs: xs}
		for range 1 + s.Intn(5) {
			c.Rows = append(c.Rows, s.numbers(len(xs)))
		}
		return c
	case api.Count:
		return api.Con{Kind: kind, Op: op, Xs: xs, V: s.Intn(3), K: s.Intn(3)}
	}
	return api.Con{Kind: api.AllDiff, Xs: xs}
}

// problem: its text and itself.
func (s source) problem(t *testing.T) (string, api.Model) {
	t.Helper()
	var m api.Model
	for x := range 1 + s.Intn(3) {
		lo := s.Intn(3) - 1
		m.Vars = append(m.Vars, api.Var{Name: fmt.Sprint("v", x), Lo: lo, Hi: lo + s.one(0, 1, 1, 2, 2, 3)})
	}
	for range s.one(0, 1, 1, 2, 2, 3) {
		m.Cons = append(m.Cons, s.con(api.Lin+s.Intn(api.Count), len(m.Vars)))
	}
	if s.Intn(2) > 0 {
		m.HasGoal, m.Goal = true, s.terms(len(m.Vars))
	}
	p, e := problem.Print(m)
	if e != api.OK {
		t.Fatalf("%+v: %d", m, e)
	}
	return p, m
}

// allValues: within the bounds.
func allValues(vars []api.Var) [][]int {
	all := [][]int{nil}
	for _, v := range vars {
		var longer [][]int
		for _, ahead := range all {
			for value := v.Lo; value <= v.Hi; value++ {
				longer = append(longer, append(ahead[:len(ahead):len(ahead)], value))
			}
		}
		all = longer
	}
	return all
}

// solutions: all of them, by counting.
func solutions(m api.Model) [][]int {
	var all [][]int
	for _, values := range allValues(m.Vars) {
		if model.Solution(m, values) {
			all = append(all, values)
		}
	}
	return all
}
