package model_test

import (
	"reflect"
	"slices"
	"testing"

	"hallmark/api"
	"hallmark/model"
)

// changes: a problem with one thing changed in every field.
func changes() []func(m *api.Model) {
	list := []func(m *api.Model){
		func(m *api.Model) { m.Vars[0].Name = "z" }, func(m *api.Model) { m.Vars[1].Lo++ }, func(m *api.Model) { m.Vars[1].Hi++ },
		func(m *api.Model) { m.Vars = m.Vars[:1] }, func(m *api.Model) { m.Vars = append(m.Vars, api.Var{}) },
		func(m *api.Model) { m.Vars[0], m.Vars[1] = m.Vars[1], m.Vars[0] },
		func(m *api.Model) { m.Cons = m.Cons[:8] }, func(m *api.Model) { m.Cons = append(m.Cons, api.Con{}) },
		func(m *api.Model) { m.Cons[0], m.Cons[1] = m.Cons[1], m.Cons[0] },
		func(m *api.Model) { m.HasGoal = false }, func(m *api.Model) { m.Goal[0].C++ }, func(m *api.Model) { m.Goal[1].X++ }, func(m *api.Model) { m.Goal = m.Goal[:1] },
	}
	for i := range 9 {
		for _, f := range []func(c *api.Con){
			func(c *api.Con) { c.Kind++ }, func(c *api.Con) { c.Op++ }, func(c *api.Con) { c.K++ }, func(c *api.Con) { c.V++ }, func(c *api.Con) { c.X++ }, func(c *api.Con) { c.Y++ },
			func(c *api.Con) { c.Terms = append(c.Terms, api.Term{}) }, func(c *api.Con) { c.Xs = append(c.Xs, 0) }, func(c *api.Con) { c.Table = append(c.Table, 0) }, func(c *api.Con) { c.Rows = append(c.Rows, nil) },
		} {
			list = append(list, func(m *api.Model) { f(&m.Cons[i]) })
		}
	}
	return append(list,
		func(m *api.Model) { m.Cons[0].Terms[0].C++ }, func(m *api.Model) { m.Cons[6].Terms[1].X++ }, func(m *api.Model) { m.Cons[2].Xs[1]++ },
		func(m *api.Model) { m.Cons[3].Table[1]++ }, func(m *api.Model) { m.Cons[7].Rows[1][1]++ }, func(m *api.Model) { m.Cons[7].Rows[0] = m.Cons[7].Rows[0][:1] })
}

func TestSame(t *testing.T) { // P4.8
	if !model.Same(every(), every()) {
		t.Error("a problem isn't the same as itself")
	}
	for i, change := range changes() {
		m := every()
		change(&m)
		if model.Same(m, every()) || model.Same(every(), m) || !model.Same(m, m) {
			t.Errorf("change %d: Same", i)
		}
	}
}

func TestSameWithEmptyLists(t *testing.T) { // P4.8: nil is like empty; of problems that aren't right, too
	empty := api.Con{Terms: []api.Term{}, Xs: make([]int, 0, 5), Table: []int{}, Rows: [][]int{}}
	for _, pair := range [][2]api.Model{
		{{}, {Vars: []api.Var{}, Cons: []api.Con{}, Goal: make([]api.Term, 0, 3)}},
		{{Cons: []api.Con{{}}}, {Cons: []api.Con{empty}}},
		{{Cons: []api.Con{{Rows: [][]int{nil}}}}, {Cons: []api.Con{{Rows: [][]int{{}}}}}},
	} {
		if !model.Same(pair[0], pair[1]) || !model.Same(pair[1], pair[0]) || !model.Same(model.Copy(pair[0]), pair[1]) || !model.Same(pair[0], model.Copy(pair[1])) {
			t.Errorf("%+v and %+v aren't the same", pair[0], pair[1])
		}
	}
	if model.Same(api.Model{Cons: []api.Con{{}}}, api.Model{}) || model.Same(api.Model{Cons: []api.Con{{Rows: [][]int{nil}}}}, api.Model{Cons: []api.Con{{}}}) {
		t.Error("a list of something empty is like an empty one")
	}
}

func TestCopy(t *testing.T) { // P4.8
	for i, change := range changes() {
		m := every()
		c := model.Copy(m)
		if !reflect.DeepEqual(m, c) {
			t.Fatalf("a copy is %+v", c)
		}
		other := model.Copy(m)
		change(&c)
		if !model.Same(m, every()) || !model.Same(other, m) {
			t.Errorf("change %d of a copy: to be seen elsewhere", i)
		}
		change(&m)
		if !model.Same(other, every()) || !model.Same(m, c) {
			t.Errorf("change %d: to be seen in a copy", i)
		}
	}
	s := newSource()
	for range 200 {
		if m := s.problem(); !model.Same(model.Copy(m), m) {
			t.Fatalf("a copy of %+v isn't the same", m)
		}
	}
	if m := model.Copy(api.Model{HasGoal: true, Cons: []api.Con{{Kind: 77, Rows: [][]int{nil, {1}}}}}); !m.HasGoal || m.Cons[0].Kind != 77 || len(m.Cons[0].Rows) != 2 {
		t.Errorf("a copy of what isn't right: %+v", m)
	}
}

// roomy lays every list of a problem into memory with spare room, which is told, too.
func roomy(m api.Model) (api.Model, func() []any) {
	var rooms []func() any
	room := func(list []int) []int {
		wide := append(slices.Clone(list), 71, 72, 73)
		rooms = append(rooms, func() any { return slices.Clone(wide) })
		return wide[:len(list)]
	}
	roomTerms := func(list []api.Term) []api.Term {
		wide := append(slices.Clone(list), api.Term{C: 74, X: 75})
		rooms = append(rooms, func() any { return slices.Clone(wide) })
		return wide[:len(list)]
	}
	vars := append(slices.Clone(m.Vars), api.Var{Name: "spare", Lo: 76})
	cons := append(slices.Clone(m.Cons), api.Con{Kind: 77})
	for i := range m.Cons {
		c := &cons[i]
		wide := append(slices.Clone(c.Rows), []int{78})
		for j := range c.Rows {
			wide[j] = room(wide[j])
		}
		rooms = append(rooms, func() any { return slices.Clone(wide) })
		c.Terms, c.Xs, c.Table, c.Rows = roomTerms(c.Terms), room(c.Xs), room(c.Table), wide[:len(c.Rows)]
	}
	rooms = append(rooms, func() any { return slices.Clone(vars) }, func() any { return slices.Clone(cons) })
	m.Vars, m.Cons, m.Goal = vars[:len(m.Vars)], cons[:len(m.Cons)], roomTerms(m.Goal)
	return m, func() []any {
		var all []any
		for _, r := range rooms {
			all = append(all, r())
		}
		return all
	}
}

func TestNothingHandedInIsTouched(t *testing.T) { // rule 3
	m, memory := roomy(every())
	before := memory()
	wide := []int{2, 0, 79}
	values := wide[:2]
	model.Check(m)
	model.Solution(m, values)
	model.Worth(m, values)
	model.Floor(m)
	model.Ceil(m)
	model.Product(m, 100)
	model.Same(m, m)
	for _, c := range m.Cons {
		model.Holds(c, values)
	}
	c := model.Copy(m)
	fill(&c)
	if !reflect.DeepEqual(memory(), before) || !slices.Equal(wide, []int{2, 0, 79}) {
		t.Error("something handed in has changed")
	}
}

// fill writes over all of a copy, its spare room, and behind it.
func fill(m *api.Model) {
	over := func(list []int) {
		list = append(list[:cap(list)], 91)
		for i := range list {
			list[i] = 92
		}
	}
	overTerms := func(list []api.Term) {
		list = append(list[:cap(list)], api.Term{C: 93})
		for i := range list {
			list[i] = api.Term{C: 94}
		}
	}
	for _, c := range m.Cons {
		over(c.Xs)
		over(c.Table)
		overTerms(c.Terms)
		for _, row := range c.Rows {
			over(row)
		}
		for i := range c.Rows[:cap(c.Rows)] {
			c.Rows[:cap(c.Rows)][i] = []int{95}
		}
	}
	overTerms(m.Goal)
	for i := range m.Vars[:cap(m.Vars)] {
		m.Vars[:cap(m.Vars)][i] = api.Var{Name: "over"}
	}
	for i := range m.Cons[:cap(m.Cons)] {
		m.Cons[:cap(m.Cons)][i] = api.Con{Kind: 96}
	}
}

func TestListsOfACopyAreApart(t *testing.T) { // rule 3: no two lists of one answer share any memory
	row := []int{0, 1}
	goal := terms(1, 1)
	m := withGoal(two(api.Con{Kind: api.Table, Xs: row, Rows: [][]int{row, row}}, api.Con{Kind: api.Lin, Op: api.Le, Terms: goal}), goal)
	c := model.Copy(m)
	c.Cons[0].Rows[0][0] = 5
	c.Goal[0].C = 6
	if c.Cons[0].Rows[1][0] != 0 || c.Cons[0].Xs[0] != 0 || c.Cons[1].Terms[0].C != 1 || row[0] != 0 || goal[0].C != 1 {
		t.Errorf("lists of a copy share memory: %+v", c)
	}
	shared := make([]int, 0, 8)
	m = api.Model{Cons: []api.Con{{Xs: shared, Table: shared[:0]}}}
	c = model.Copy(m)
	_ = append(c.Cons[0].Xs, 1)
	_ = append(c.Cons[0].Table, 2)
	if !slices.Equal(shared[:8], make([]int, 8)) {
		t.Error("an empty list of a copy has the memory that was handed in")
	}
}
