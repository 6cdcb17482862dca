package write_test

import (
	"fmt"
	"strings"
	"testing"

	"hallmark/api"
	"hallmark/check"
	"hallmark/encode"
	"hallmark/model"
	"hallmark/order"
	"hallmark/pb"
	"hallmark/text"
	"hallmark/write"
)

// problem: a small one, as text, of which all values can be gone through.
func (s source) problem(t *testing.T) (string, api.Model) {
	t.Helper()
	vars := 1 + s.Intn(3)
	var lines []string
	for x := range vars {
		lo := s.Intn(3) - 1
		lines = append(lines, fmt.Sprintf("var v%d %d %d", x, lo, lo+s.Intn(4)))
	}
	name := func() string { return fmt.Sprint("v", s.Intn(vars)) }
	names := func() string { return strings.Join(some(1+s.Intn(3), name), " ") }
	term := func() string { return fmt.Sprint(1+s.Intn(2)-3*s.Intn(2), " ", name()) }
	terms := func() string { return strings.Join(some(1+s.Intn(3), term), " ") }
	op := func() string { return []string{"<=", "=", ">="}[s.Intn(3)] }
	for range s.Intn(4) {
		lines = append(lines, []string{
			fmt.Sprintf("lin %s %d %s", op(), s.Intn(5)-1, terms()),
			fmt.Sprintf("ne %s %s %d", name(), name(), s.Intn(3)-1),
			"alldiff " + names(),
			fmt.Sprintf("max %s %s", name(), names()),
			fmt.Sprintf("count %s %d %d %s", op(), s.Intn(3), s.Intn(3), names()),
			fmt.Sprintf("table %s : 0 : 1 : 2", name()),
		}[s.Intn(6)])
	}
	if s.Intn(2) == 0 {
		lines = append(lines, "minimize "+terms())
	}
	p := strings.Join(lines, "\n") + "\n"
	m, err := text.Parse(p)
	if err != nil {
		t.Fatalf("%s: %v", p, err)
	}
	return p, m
}

// prover writes a log that goes through all values, and says of each row that
// it is told the id of which row that is.
type prover struct {
	source
	*testing.T
	*write.Log
	m     api.Model
	o     *order.Order
	all   bool
	found [][]int // solutions that were told
}

func (s source) prover(t *testing.T, m api.Model, all bool) *prover {
	t.Helper()
	o, _ := order.New(m)
	rows, e := encode.Rows(m)
	if e != api.OK {
		t.Fatalf("%+v: %d", m, e)
	}
	return &prover{s, t, write.New(len(rows), m.HasGoal), m, o, all, nil}
}

// row asks that a row was laid down, and says that its id has it.
func (p *prover) row(id int, e api.Errno, r api.Row) int {
	p.Helper()
	if e != api.OK || id != p.Log.Next()-1 || p.Log.Same(id, r) != api.OK {
		p.Fatalf("%s: %d, %d", p.Text(), id, e)
	}
	if p.Intn(6) == 0 {
		p.aside(id, r)
	}
	return id
}

// aside writes what nothing leans on.
func (p *prover) aside(id int, plain api.Row) {
	p.Log.Note()
	r, _ := pb.Of(plain)
	if id, e := p.Log.Pol([]api.Op{of(fmt.Sprint(id)), of(fmt.Sprint(id)), {Kind: api.OpAdd}, {Kind: api.OpSaturate}}); p.Intn(2) == 0 {
		p.row(id, e, r.Add(r).Saturate().Plain())
	}
	if id, e := p.Log.Rup(api.Row{Degree: "-3"}, []int{id}); p.Intn(2) == 0 {
		p.row(id, e, api.Row{Degree: "0"})
	}
	if p.o.Count() > 0 {
		id, e := p.Log.Pol([]api.Op{{Kind: api.OpLit, L: 1}})
		p.row(id, e, api.Row{Pieces: clause(1).Pieces, Degree: "0"})
	}
}

// literals: from which the values of the first variables follow.
func (p *prover) literals(values []int) []int {
	var list []int
	for x, v := range values {
		if n, what := p.o.AtLeast(x, v); what == api.Lit {
			list = append(list, n)
		}
		if n, what := p.o.AtLeast(x, v+1); what == api.Lit {
			list = append(list, -n)
		}
	}
	return list
}

// unlike writes that the first variables haven't these values.
func (p *prover) unlike(values, hints []int) int {
	p.Helper()
	lits := p.literals(values)
	for i := range lits {
		lits[i] = -lits[i]
	}
	if p.Intn(2) == 0 {
		hints = nil
	}
	id, e := p.Log.Rup(clause(lits...), hints)
	return p.row(id, e, clause(lits...))
}

// part writes that the first variables haven't these values all: the row's id; 0, if that is enough.
func (p *prover) part(values []int) int {
	if len(values) == len(p.m.Vars) {
		return p.leaf(values)
	}
	var parts []int
	v := p.m.Vars[len(values)]
	for value := v.Lo; value <= v.Hi; value++ {
		id := p.part(append(values[:len(values):len(values)], value))
		if id == 0 {
			return 0
		}
		parts = append(parts, id)
	}
	id := p.unlike(values, parts)
	if p.Intn(2) == 0 {
		p.Log.Del(parts)
	}
	return id
}

func (p *prover) leaf(values []int) int {
	n := len(p.found)
	if !model.Solution(p.m, values) || !p.all && n > 0 && model.Worth(p.m, values) >= model.Worth(p.m, p.found[n-1]) {
		return p.unlike(values, nil)
	}
	p.found = append(p.found, values)
	lits := p.literals(values)
	if p.all {
		id, e := p.Log.Solx(lits)
		r, _ := encode.Unlike(p.m, values)
		return p.row(id, e, r)
	}
	id, e := p.Log.Soli(lits)
	if !p.m.HasGoal {
		if id != 0 || e != api.OK {
			p.Fatalf("%s: %d, %d", p.Text(), id, e)
		}
		return 0
	}
	r, _ := encode.Less(p.m, model.Worth(p.m, values))
	p.row(id, e, r)
	return p.unlike(values, nil)
}

// prove writes the whole log: the verdict that there is to claim.
func (p *prover) prove() api.Verdict {
	root, n := p.part(nil), len(p.found)
	switch {
	case p.all:
		p.Log.End(api.All, root, 0, n)
		return api.Verdict{Kind: api.All, Count: n}
	case n == 0:
		p.Log.End(api.Unsat, root, 0, 0)
		return api.Verdict{Kind: api.Unsat}
	case !p.m.HasGoal:
		p.Log.End(api.Sat, 0, 0, 0)
		return api.Verdict{Kind: api.Sat, Values: p.found[n-1]}
	}
	w := model.Worth(p.m, p.found[n-1])
	p.Log.End(api.Bounds, root, w, w)
	return api.Verdict{Kind: api.Best, Worth: w, Values: p.found[n-1]}
}

func TestIdsAreTheCheckers(t *testing.T) { // P16.5: rows are numbered as layer 10 numbers them
	s := newSource(false)
	var kinds [api.All + 1]int
	for range 1500 {
		problem, m := s.problem(t)
		p := s.prover(t, m, s.Intn(3) == 0)
		want := p.prove()
		if v, err := check.Check(problem, p.Text()); err != nil || fmt.Sprint(v) != fmt.Sprint(want) {
			t.Fatalf("%s%s: %v, %v; want %v", problem, p.Text(), v, err, want)
		}
		kinds[want.Kind]++
	}
	for _, kind := range []int{api.Unsat, api.Sat, api.Best, api.All} {
		if kinds[kind] < 100 {
			t.Errorf("too few to tell: %v", kinds)
		}
	}
}

func TestLooseEnds(t *testing.T) { // P16.3, P16.5: conclusions that claim less
	const problem = "var x 0 3\nlin >= 1 1 x\nminimize 1 x\n"
	begun := func() *write.Log {
		w := write.New(3, true)
		say(t, w, soli(1, 2, 3), 4, api.OK)
		return w
	}
	for _, e := range []struct {
		call
		want api.Verdict
	}{
		{end(api.None, 0, 0, 0), api.Verdict{Kind: api.None}},
		{end(api.Bounds, 0, -5, 3), api.Verdict{Kind: api.Bounds, Worth: 3, Values: []int{3}}},
		{end(api.Bounds, 3, 1, 3), api.Verdict{Kind: api.Bounds, Low: 1, Worth: 3, Values: []int{3}}},
	} {
		w := begun()
		say(t, w, e.call, 0, api.OK)
		if v, err := check.Check(problem, w.Text()); err != nil || fmt.Sprint(v) != fmt.Sprint(e.want) {
			t.Errorf("%s: %v, %v; want %v", w.Text(), v, err, e.want)
		}
	}
}
