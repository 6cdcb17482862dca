package check

import (
	"slices"

	"hallmark/api"
	"hallmark/encode"
	"hallmark/model"
	"hallmark/order"
	"hallmark/pb"
	"hallmark/unit"
)

// problem: what the checker makes of a problem by itself.
type problem struct {
	model api.Model
	order *order.Order
	rows  []pb.Row
}

// newProblem: of a right problem, which no layer beneath refuses.
func newProblem(m api.Model) problem {
	o, _ := order.New(m)
	plain, _ := encode.Rows(m)
	rows := make([]pb.Row, len(plain))
	for i, r := range plain {
		rows[i], _ = pb.Of(r)
	}
	return problem{m, o, rows}
}

// beyond tells whether a literal's variable is above the problem's.
func (p *problem) beyond(lit int) bool { return variable(lit) > p.order.Count() }

// solution tells the solution to which unit propagation over the problem's
// rows comes from literals, none of them beyond; false: it comes to none.
func (p *problem) solution(lits []int) ([]int, bool) {
	if namedTwice(lits) {
		return nil, false
	}
	all, ok := unit.Run(p.rows, lits)
	if !ok || !p.settled(all) {
		return nil, false
	}
	set := make([]bool, p.order.Count())
	for _, l := range all {
		set[variable(l)-1] = l > 0
	}
	values, ok := p.order.Values(set)
	if !ok || !model.Solution(p.model, values) {
		return nil, false
	}
	return values, true
}

// settled tells whether literals give each [x at least k] a value.
func (p *problem) settled(lits []int) bool {
	given := make([]bool, p.order.Count())
	for _, l := range lits {
		given[variable(l)-1] = true
	}
	for x, v := range p.model.Vars {
		for k := v.Lo + 1; k <= v.Hi; k++ {
			if n, _ := p.order.AtLeast(x, k); !given[n-1] {
				return false
			}
		}
	}
	return true
}

// namedTwice tells whether a variable stands twice in literals.
func namedTwice(lits []int) bool {
	var all []int
	for _, l := range lits {
		all = append(all, variable(l))
	}
	slices.Sort(all)
	return len(slices.Compact(all)) < len(lits)
}

func variable(lit int) int { return max(lit, -lit) }
