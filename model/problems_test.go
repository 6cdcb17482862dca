package model_test

import (
	"math/rand"
	"slices"

	"hallmark/api"
	"hallmark/model"
)

// two: the variables of the chapter's examples.
func two(cons ...api.Con) api.Model {
	return api.Model{Vars: []api.Var{{Name: "x", Lo: 0, Hi: 3}, {Name: "y", Lo: -1, Hi: 2}}, Cons: cons}
}

// terms: each coefficient of its variable, in their order; 0: none.
func terms(coefs ...int) []api.Term {
	var list []api.Term
	for x, c := range coefs {
		if c != 0 {
			list = append(list, api.Term{C: c, X: x})
		}
	}
	return list
}

func withGoal(m api.Model, goal []api.Term) api.Model {
	m.HasGoal, m.Goal = true, goal
	return m
}

// one: a right constraint of each kind over two variables, at its kind's place.
func one() [10]api.Con {
	return [...]api.Con{
		api.Lin:     {Kind: api.Lin, Op: api.Le, Terms: terms(2, -1), K: 4},
		api.Ne:      {Kind: api.Ne, X: 0, Y: 1, K: 1},
		api.AllDiff: {Kind: api.AllDiff, Xs: []int{0, 1}},
		api.Element: {Kind: api.Element, X: 0, Y: 1, Table: []int{2, 0}},
		api.Max:     {Kind: api.Max, Y: 0, Xs: []int{1, 1}},
		api.Min:     {Kind: api.Min, Y: 1, Xs: []int{0, 1}},
		api.Reif:    {Kind: api.Reif, X: 0, Terms: terms(1, 1), K: 1},
		api.Table:   {Kind: api.Table, Xs: []int{0, 1}, Rows: [][]int{{0, 1}, {3, -1}}},
		api.Count:   {Kind: api.Count, Xs: []int{0, 1, 1}, V: 2, Op: api.Eq, K: 2},
	}
}

// every: a right problem that has a constraint of each kind, and a goal.
func every() api.Model {
	cons := one()
	return withGoal(two(cons[1:]...), terms(3, -2))
}

// holds goes by the words of DOC.md's section on constraints, of a constraint that may stand there.
func holds(c api.Con, v []int) bool {
	sum, among, times := 0, 0, 0
	for _, t := range c.Terms {
		sum += t.C * v[t.X]
	}
	var have []int
	for _, x := range c.Xs {
		have = append(have, v[x])
		if v[x] == c.V {
			times++
		}
		if v[x] == v[c.Y] {
			among++
		}
	}
	switch c.Kind {
	case api.Lin:
		return map[int]bool{api.Le: sum <= c.K, api.Eq: sum == c.K, api.Ge: sum >= c.K}[c.Op]
	case api.Ne:
		return v[c.X]-v[c.Y] != c.K
	case api.AllDiff:
		slices.Sort(have)
		return len(slices.Compact(have)) == len(c.Xs)
	case api.Element:
		for place, number := range c.Table {
			if v[c.X] == place {
				return v[c.Y] == number
			}
		}
		return false
	case api.Max:
		return among > 0 && !slices.ContainsFunc(have, func(n int) bool { return n > v[c.Y] })
	case api.Min:
		return among > 0 && !slices.ContainsFunc(have, func(n int) bool { return n < v[c.Y] })
	case api.Reif:
		return v[c.X] == 1 && sum <= c.K || v[c.X] == 0 && sum > c.K
	case api.Table:
		for _, row := range c.Rows {
			if slices.Equal(row, have) {
				return true
			}
		}
		return false
	}
	return map[int]bool{api.Le: times <= c.K, api.Eq: times == c.K, api.Ge: times >= c.K}[c.Op]
}

// all goes through all values within the bounds.
func all(vars []api.Var, visit func(values []int)) {
	values := make([]int, len(vars))
	var from func(i int)
	from = func(i int) {
		if i == len(vars) {
			visit(values)
			return
		}
		for values[i] = vars[i].Lo; values[i] <= vars[i].Hi; values[i]++ {
			from(i + 1)
		}
	}
	from(0)
}

// solutions: those that Solution takes, of all values within the bounds.
func solutions(m api.Model) [][]int {
	var list [][]int
	all(m.Vars, func(values []int) {
		if model.Solution(m, values) {
			list = append(list, slices.Clone(values))
		}
	})
	return list
}

// source makes right problems of few variables and values.
type source struct{ *rand.Rand }

func newSource() source { return source{rand.New(rand.NewSource(41))} }

// number is small, and may be below 0.
func (s source) number() int { return s.Intn(7) - 2 }

func (s source) numbers(n int) []int {
	var list []int
	for range n {
		list = append(list, s.number())
	}
	return list
}

func (s source) places(n, vars int) []int {
	var list []int
	for range n {
		list = append(list, s.Intn(vars))
	}
	return list
}

func (s source) terms(vars int) []api.Term {
	var list []api.Term
	for range 1 + s.Intn(4) {
		list = append(list, api.Term{C: []int{-3, -2, -1, 1, 2, 3}[s.Intn(6)], X: s.Intn(vars)})
	}
	return list
}

func (s source) con(vars int) api.Con {
	c := api.Con{Kind: api.Lin + s.Intn(api.Count)}
	op, x, y, few := api.Le+s.Intn(3), s.Intn(vars), s.Intn(vars), 1+s.Intn(3)
	switch c.Kind {
	case api.Lin:
		c.Op, c.Terms, c.K = op, s.terms(vars), s.number()
	case api.Ne:
		c.X, c.Y, c.K = x, y, s.number()
	case api.AllDiff:
		c.Xs = s.places(few, vars)
	case api.Element:
		c.X, c.Y, c.Table = x, y, s.numbers(few)
	case api.Max, api.Min:
		c.Y, c.Xs = y, s.places(few, vars)
	case api.Reif:
		c.X, c.Terms, c.K = x, s.terms(vars), s.number()
	case api.Table:
		c.Xs = s.places(few, vars)
		for range 1 + s.Intn(5) {
			c.Rows = append(c.Rows, s.numbers(few))
		}
	case api.Count:
		c.Op, c.Xs, c.V, c.K = op, s.places(1+s.Intn(4), vars), s.number(), s.number()
	}
	return c
}

func (s source) problem() api.Model {
	var m api.Model
	for i := range 1 + s.Intn(4) {
		lo := s.Intn(5) - 3
		m.Vars = append(m.Vars, api.Var{Name: "abcd"[i : i+1], Lo: lo, Hi: lo + s.Intn(4)})
	}
	for range s.Intn(4) {
		m.Cons = append(m.Cons, s.con(len(m.Vars)))
	}
	if s.Intn(2) == 0 {
		m = withGoal(m, s.terms(len(m.Vars)))
	}
	return m
}
