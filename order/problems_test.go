package order_test

import (
	"fmt"
	"math/rand"
	"testing"

	"hallmark/api"
	"hallmark/model"
	"hallmark/order"
)

// two: the variables of the chapter's examples.
func two(cons ...api.Con) api.Model {
	return api.Model{Vars: []api.Var{{Name: "x", Lo: 0, Hi: 3}, {Name: "y", Lo: -1, Hi: 2}}, Cons: cons}
}

// made asks that a problem has an order.
func made(t *testing.T, m api.Model) *order.Order {
	t.Helper()
	o, e := order.New(m)
	if o == nil || e != api.OK {
		t.Fatalf("New(%+v): %d", m, e)
	}
	return o
}

// listed goes by DOC.md, "The rows of a problem": what each number says, in their order.
func listed(m api.Model) []api.Mean {
	var list []api.Mean
	for x, v := range m.Vars {
		for k := v.Lo + 1; k <= v.Hi; k++ {
			list = append(list, api.Mean{X: x, V: k})
		}
	}
	for x, v := range m.Vars {
		if !stands(m, x) {
			continue
		}
		for k := v.Lo; k <= v.Hi; k++ {
			list = append(list, api.Mean{X: x, V: k, Is: true})
		}
	}
	for c, con := range m.Cons {
		for r := range con.Rows {
			list = append(list, api.Mean{Con: c, Row: r, Pick: true})
		}
	}
	return list
}

// stands: in an AllDiff or a Count.
func stands(m api.Model, x int) bool {
	for _, c := range m.Cons {
		for _, y := range c.Xs {
			if x == y && (c.Kind == api.AllDiff || c.Kind == api.Count) {
				return true
			}
		}
	}
	return false
}

// holds tells whether what is said is true of values.
func holds(m api.Model, what api.Mean, values []int) bool {
	switch {
	case what.Pick:
		c := m.Cons[what.Con]
		for i, x := range c.Xs {
			if c.Rows[what.Row][i] != values[x] {
				return false
			}
		}
		return true
	case what.Is:
		return values[what.X] == what.V
	}
	return values[what.X] >= what.V
}

// source makes right problems of all sizes.
type source struct{ *rand.Rand }

func newSource() source { return source{rand.New(rand.NewSource(61))} }

func (s source) one(list ...int) int { return list[s.Intn(len(list))] }

// few: how many there may be, mostly few, the most now and then.
func (s source) few(most int) int {
	if s.Intn(10) == 0 {
		return most
	}
	return 1 + s.Intn(min(4, most))
}

func (s source) places(n, vars int) []int {
	list := make([]int, n)
	for i := range list {
		list[i] = s.Intn(vars)
	}
	return list
}

func (s source) variable(place int) api.Var {
	size := s.one(1, 1, 2, 3, 1+s.Intn(api.MaxDomain), api.MaxDomain)
	lo := s.one(0, -1, s.Intn(9)-4, -api.MaxValue, api.MaxValue-size+1)
	return api.Var{Name: fmt.Sprint("v", place), Lo: lo, Hi: lo + size - 1}
}

// values: within the bounds.
func (s source) values(vars []api.Var) []int {
	list := make([]int, len(vars))
	for x, v := range vars {
		list[x] = v.Lo + s.Intn(v.Hi-v.Lo+1)
	}
	return list
}

// con: its rows have values of its variables mostly, now and then a number that none has.
func (s source) con(vars []api.Var) api.Con {
	n := len(vars)
	term := []api.Term{{C: 1, X: s.Intn(n)}, {C: -2, X: s.Intn(n)}}
	xs := s.places(s.few(api.MaxTerms), n)
	switch kind := api.Lin + s.Intn(api.Count); kind {
	case api.Lin:
		return api.Con{Kind: kind, Op: api.Eq, Terms: term}
	case api.Ne:
		return api.Con{Kind: kind, X: s.Intn(n), Y: s.Intn(n)}
	case api.AllDiff:
		return api.Con{Kind: kind, Xs: xs}
	case api.Element:
		return api.Con{Kind: kind, X: s.Intn(n), Y: s.Intn(n), Table: xs}
	case api.Max, api.Min:
		return api.Con{Kind: kind, Y: s.Intn(n), Xs: xs}
	case api.Reif:
		return api.Con{Kind: kind, X: s.Intn(n), Terms: term}
	case api.Count:
		return api.Con{Kind: kind, Op: api.Ge, Xs: xs, V: s.Intn(3), K: 1}
	default:
		return s.table(vars)
	}
}

func (s source) table(vars []api.Var) api.Con {
	c := api.Con{Kind: api.Table, Xs: s.places(s.few(api.MaxCols), len(vars))}
	for range s.few(api.MaxTerms) {
		values, row := s.values(vars), []int(nil)
		for _, x := range c.Xs {
			row = append(row, s.one(values[x], values[x], values[x], vars[x].Lo, s.Intn(5)-2))
		}
		c.Rows = append(c.Rows, row)
	}
	return c
}

func (s source) problem(t *testing.T) api.Model {
	t.Helper()
	var m api.Model
	for x := range s.few(api.MaxVars) {
		m.Vars = append(m.Vars, s.variable(x))
	}
	for range s.one(0, 1, 2, 3, 6) {
		m.Cons = append(m.Cons, s.con(m.Vars))
	}
	if s.Intn(3) == 0 {
		m.HasGoal, m.Goal = true, []api.Term{{C: 1, X: 0}}
	}
	if at, e := model.Check(m); e != api.OK {
		t.Fatalf("%+v: %d at %d", m, e, at)
	}
	return m
}

// picked: values of which a row of a Table is told, if there is one that can be.
func (s source) picked(m api.Model) []int {
	values := s.values(m.Vars)
	for _, c := range m.Cons {
		if c.Kind != api.Table {
			continue
		}
		row := c.Rows[s.Intn(len(c.Rows))]
		for i, x := range c.Xs {
			if v := m.Vars[x]; row[i] >= v.Lo && row[i] <= v.Hi {
				values[x] = row[i]
			}
		}
	}
	return values
}
