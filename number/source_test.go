package number_test

import (
	"fmt"
	"math/rand"
	"testing"

	"hallmark/api"
	"hallmark/model"
)

// chapter: the chapter's problem.
func chapter() api.Model {
	return api.Model{
		Vars: []api.Var{{Name: "x", Hi: 2}, {Name: "y", Lo: 5, Hi: 6}},
		Cons: []api.Con{{Kind: api.AllDiff, Xs: []int{0, 1}}},
	}
}

// two: x from 0 to 3, y from -1 to 2.
func two(cons ...api.Con) api.Model {
	return api.Model{Vars: []api.Var{{Name: "x", Lo: 0, Hi: 3}, {Name: "y", Lo: -1, Hi: 2}}, Cons: cons}
}

// source makes right problems: small ones, of which all values can be gone
// through, or ones of all sizes.
type source struct {
	*rand.Rand
	small bool
}

func newSource(small bool) source { return source{rand.New(rand.NewSource(151)), small} }

func (s source) one(list ...int) int { return list[s.Intn(len(list))] }

// few: how many there may be; of problems of all sizes the most now and then.
func (s source) few(most int) int {
	if !s.small && s.Intn(12) == 0 {
		return most
	}
	return 1 + s.Intn(min(4, most))
}

func (s source) places(n, vars int) []int {
	list := make([]int, n)
	for i := range list {
		list[i] = s.Intn(vars)
	}
	return list
}

func (s source) variable(place int) api.Var {
	size, lo := s.one(1, 2, 2, 3, 3, 4), s.Intn(5)-2
	if !s.small {
		size = s.one(size, 1+s.Intn(api.MaxDomain), api.MaxDomain)
		lo = s.one(lo, lo, lo, s.Intn(90)-60, -api.MaxValue, api.MaxValue-size+1)
	}
	return api.Var{Name: fmt.Sprint("v", place), Lo: lo, Hi: lo + size - 1}
}

// number: mostly near what values there are, now and then as great as can be.
func (s source) number(vars []api.Var) int {
	v := vars[s.Intn(len(vars))]
	near := v.Lo - 1 + s.Intn(v.Hi-v.Lo+3)
	near = max(-api.MaxValue, min(near, api.MaxValue))
	if s.Intn(20) == 0 {
		return s.one(-api.MaxValue, api.MaxValue)
	}
	return s.one(near, near, s.Intn(7)-3)
}

func (s source) numbers(n int, vars []api.Var) []int {
	list := make([]int, n)
	for i := range list {
		list[i] = s.number(vars)
	}
	return list
}

func (s source) terms(vars []api.Var) []api.Term {
	list := make([]api.Term, s.few(api.MaxTerms))
	for i := range list {
		list[i] = api.Term{C: s.one(1, 1, -1, -1, 2, -3), X: s.Intn(len(vars))}
		if !s.small {
			list[i].C = s.one(list[i].C, 1+s.Intn(api.MaxCoef), -api.MaxCoef, api.MaxCoef)
		}
	}
	return list
}

func (s source) con(vars []api.Var) api.Con {
	n := len(vars)
	xs, op := s.places(s.few(api.MaxTerms), n), s.one(api.Le, api.Eq, api.Ge)
	switch kind := api.Lin + s.Intn(api.Count); kind {
	case api.Lin:
		return api.Con{Kind: kind, Op: op, Terms: s.terms(vars), K: s.number(vars)}
	case api.Ne:
		return s.unequal(vars)
	case api.AllDiff:
		return api.Con{Kind: kind, Xs: xs}
	case api.Element:
		return api.Con{Kind: kind, X: s.Intn(n), Y: s.Intn(n), Table: s.numbers(s.few(api.MaxTerms), vars)}
	case api.Max, api.Min:
		return api.Con{Kind: kind, Y: s.Intn(n), Xs: xs}
	case api.Reif:
		return api.Con{Kind: kind, X: s.Intn(n), Terms: s.terms(vars), K: s.number(vars)}
	case api.Count:
		return api.Con{Kind: kind, Op: op, Xs: xs, V: s.number(vars), K: s.one(0, 1, 2, s.number(vars))}
	default:
		c := api.Con{Kind: api.Table, Xs: s.places(s.few(api.MaxCols), n)}
		for range s.few(api.MaxTerms) {
			c.Rows = append(c.Rows, s.tableRow(c.Xs, vars))
		}
		return c
	}
}

// unequal: a Ne that some values don't meet mostly.
func (s source) unequal(vars []api.Var) api.Con {
	x, y := s.Intn(len(vars)), s.Intn(len(vars))
	values := s.values(vars)
	apart := max(-api.MaxValue, min(values[x]-values[y], api.MaxValue))
	return api.Con{Kind: api.Ne, X: x, Y: y, K: s.one(apart, apart, apart, s.number(vars))}
}

// tableRow: values of the variables mostly, now and then a number that none has.
func (s source) tableRow(xs []int, vars []api.Var) []int {
	row := make([]int, len(xs))
	for i, x := range xs {
		v := vars[x]
		row[i] = v.Lo + s.Intn(v.Hi-v.Lo+1)
		if s.Intn(8) == 0 {
			row[i] = s.number(vars)
		}
	}
	return row
}

func (s source) problem(t *testing.T) api.Model {
	t.Helper()
	var m api.Model
	for x := range s.few(api.MaxVars) {
		m.Vars = append(m.Vars, s.variable(x))
	}
	for range s.one(0, 1, 1, 2, 3) {
		m.Cons = append(m.Cons, s.con(m.Vars))
	}
	if s.Intn(3) > 0 {
		m.HasGoal, m.Goal = true, s.terms(m.Vars)
	}
	if at, e := model.Check(m); e != api.OK {
		t.Fatalf("%+v: %d at %d", m, e, at)
	}
	return m
}

// values: within the bounds.
func (s source) values(vars []api.Var) []int {
	list := make([]int, len(vars))
	for x, v := range vars {
		list[x] = v.Lo + s.Intn(v.Hi-v.Lo+1)
	}
	return list
}

// picked: values of which a row of a Table is told, if there is one that can be.
func (s source) picked(m api.Model) []int {
	values := s.values(m.Vars)
	for _, c := range m.Cons {
		if c.Kind != api.Table {
			continue
		}
		row := c.Rows[s.Intn(len(c.Rows))]
		for i, x := range c.Xs {
			if v := m.Vars[x]; row[i] >= v.Lo && row[i] <= v.Hi {
				values[x] = row[i]
			}
		}
	}
	return values
}
