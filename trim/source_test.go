package trim_test

import (
	"math/rand"
	"strconv"
	"testing"

	"hallmark/api"
	"hallmark/model"
	"hallmark/text"
)

// source: problems, scripts and logs by chance, the same ones in each run.
type source struct{ *rand.Rand }

func newSource(seed int64) source { return source{rand.New(rand.NewSource(seed))} }

// written: the text of a problem.
func written(t testing.TB, m api.Model) string {
	t.Helper()
	p, e := text.Print(m)
	if e != api.OK {
		t.Fatalf("%+v: %v", m, e)
	}
	return p
}

// read: the problem that a text says.
func read(t testing.TB, p string) api.Model {
	t.Helper()
	m, err := text.Parse(p)
	if err != nil {
		t.Fatalf("%q: %v", p, err)
	}
	return m
}

// problem: up to so many variables with up to so many values each, up to so
// many constraints of all kinds, each of which holds, if tries are enough, of
// some values that all of them know; and perhaps a goal.
func (s source) problem(vars, wide, cons, tries int) api.Model {
	var m api.Model
	for x := range 1 + s.Intn(vars) {
		v := api.Var{Name: "x" + strconv.Itoa(x), Lo: s.Intn(4) - 2}
		v.Hi = v.Lo + s.Intn(wide)
		if s.Intn(4) == 0 {
			v.Lo, v.Hi = 0, 1
		}
		m.Vars = append(m.Vars, v)
	}
	known := s.values(m)
	for range s.Intn(cons + 1) {
		c := s.con(1+s.Intn(api.Count), m)
		for range tries {
			if model.Holds(c, known) {
				break
			}
			c = s.con(c.Kind, m)
		}
		m.Cons = append(m.Cons, c)
	}
	if s.Intn(2) == 0 {
		m.HasGoal, m.Goal = true, s.terms(m)
	}
	return m
}

// values: one of each variable's.
func (s source) values(m api.Model) []int {
	out := make([]int, len(m.Vars))
	for x := range out {
		out[x] = s.of(m, x)
	}
	return out
}

// of: a value of a variable.
func (s source) of(m api.Model, x int) int {
	v := m.Vars[x]
	return v.Lo + s.Intn(v.Hi-v.Lo+1)
}

// near: likewise; seldom one that it hasn't.
func (s source) near(m api.Model, x int) int {
	if s.Intn(8) == 0 {
		return s.of(m, x) + s.Intn(5) - 2
	}
	return s.of(m, x)
}

func (s source) places(n int, m api.Model) []int {
	out := make([]int, n)
	for i := range out {
		out[i] = s.Intn(len(m.Vars))
	}
	return out
}

func (s source) terms(m api.Model) []api.Term {
	var out []api.Term
	for range 1 + s.Intn(4) {
		out = append(out, api.Term{C: []int{-3, -2, -1, 1, 1, 2, 5}[s.Intn(7)], X: s.Intn(len(m.Vars))})
	}
	return out
}

// about: what terms come to of some values, and a little more or less.
func (s source) about(m api.Model, list []api.Term) int {
	sum, values := s.Intn(5)-2, s.values(m)
	for _, t := range list {
		sum += t.C * values[t.X]
	}
	return sum
}

// con: a constraint of a kind that may stand in a problem.
func (s source) con(kind int, m api.Model) api.Con {
	n := len(m.Vars)
	c := api.Con{Kind: kind}
	switch kind {
	case api.Lin:
		c.Op, c.Terms = api.Le+s.Intn(3), s.terms(m)
		c.K = s.about(m, c.Terms)
	case api.Ne:
		c.X, c.Y = s.Intn(n), s.Intn(n)
		c.K = s.of(m, c.X) - s.of(m, c.Y)
	case api.AllDiff:
		c.Xs = s.Perm(n)[:1+s.Intn(n)]
		if s.Intn(10) == 0 {
			c.Xs = append(c.Xs, s.Intn(n))
		}
	case api.Element:
		c.X, c.Y = s.Intn(n), s.Intn(n)
		for range 1 + s.Intn(5) {
			c.Table = append(c.Table, s.near(m, c.Y))
		}
	case api.Max, api.Min:
		c.Y, c.Xs = s.Intn(n), s.places(1+s.Intn(3), m)
	case api.Reif:
		c.X, c.Terms = s.Intn(n), s.terms(m)
		c.K = s.about(m, c.Terms)
	case api.Table:
		c.Xs = s.places(1+s.Intn(3), m)
		for range 1 + s.Intn(6) {
			var row []int
			for _, x := range c.Xs {
				row = append(row, s.near(m, x))
			}
			c.Rows = append(c.Rows, row)
		}
	case api.Count:
		c.Op, c.Xs = api.Le+s.Intn(3), s.places(1+s.Intn(5), m)
		c.V, c.K = s.near(m, c.Xs[0]), s.Intn(len(c.Xs)+1)
	}
	return c
}

// script: some numbers to branch by.
func (s source) script() []int {
	var h []int
	for range s.Intn(12) {
		h = append(h, s.Intn(61)-20)
	}
	return h
}
