package trim

import (
	"hallmark/api"
	"hallmark/base"
	"hallmark/encode"
	"hallmark/model"
	"hallmark/pb"
	"hallmark/unit"
)

// problem: a right problem, its rows, and of each literal [x at least k] the
// place of x.
type problem struct {
	model api.Model
	rows  []pb.Row
	about map[int]int
}

func newProblem(m api.Model) *problem {
	plain, _ := encode.Rows(m) // it refuses no right problem
	p := &problem{model: m, about: map[int]int{}}
	for _, r := range plain {
		p.rows = append(p.rows, formed(r))
	}
	for x := range m.Vars {
		for _, l := range literals(m, x) {
			p.about[l] = x
		}
	}
	return p
}

// literals tells those that say [x at least k]: a goal that is x alone is made
// of just these.
func literals(m api.Model, x int) []int {
	m.HasGoal, m.Goal = true, []api.Term{{C: 1, X: x}}
	pieces, _ := encode.Goal(m)
	var lits []int
	for _, p := range pieces {
		lits = append(lits, p.L)
	}
	return lits
}

// adds tells the row that a step adds, the rows of a base being there; false: it
// adds none.
func (p *problem) adds(b *base.Base, s api.Step) (pb.Row, bool) {
	switch {
	case s.Kind == api.StepPol:
		r, _ := b.Pol(s.Ops)
		return r, true
	case s.Kind == api.StepRup:
		return formed(s.Row), true
	case s.Kind == api.StepSoli && p.model.HasGoal:
		r, _ := encode.Less(p.model, model.Worth(p.model, p.values(s.Lits)))
		return formed(r), true
	case s.Kind == api.StepSolx:
		r, _ := encode.Unlike(p.model, p.values(s.Lits))
		return formed(r), true
	}
	return pb.Row{}, false
}

// values tells the solution that a step's literals tell.
func (p *problem) values(lits []int) []int {
	values := make([]int, len(p.model.Vars))
	for x, v := range p.model.Vars {
		values[x] = v.Lo
	}
	all, _ := unit.Run(p.rows, lits)
	for _, l := range all {
		if x, says := p.about[l]; says {
			values[x]++
		}
	}
	return values
}

// formed brings a row to the one form: it is one that a layer beneath told, or
// that the checker took, so that it has one.
func formed(plain api.Row) pb.Row {
	r, _ := pb.Of(plain)
	return r
}
