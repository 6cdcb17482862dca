package audit

import (
	"iter"

	"hallmark/api"
	"hallmark/model"
)

func countable(m api.Model) bool {
	_, few := model.Product(m, api.MaxCount)
	return few
}

// within gives all values within bounds, in order. They stand in one list, which
// whoever gets it leaves as it is and doesn't keep.
func within(vars []api.Var) iter.Seq[[]int] {
	return func(yield func([]int) bool) {
		values := make([]int, len(vars))
		for x, v := range vars {
			values[x] = v.Lo
		}
		for more := true; more; more = advance(vars, values) {
			if !yield(values) {
				return
			}
		}
	}
}

// advance makes the next values of some values; false: they were the last ones.
func advance(vars []api.Var, values []int) bool {
	for x := len(vars) - 1; x >= 0; x-- {
		if values[x] < vars[x].Hi {
			values[x]++
			return true
		}
		values[x] = vars[x].Lo
	}
	return false
}

// holdAll asks the constraints one by one: model.Solution would ask each time
// whether the whole problem is right.
func holdAll(cons []api.Con, values []int) bool {
	for _, c := range cons {
		if !model.Holds(c, values) {
			return false
		}
	}
	return true
}

// first answers a problem without a goal.
func first(m api.Model) api.Verdict {
	for values := range Solutions(m) {
		return api.Verdict{Kind: api.Sat, Values: values}
	}
	return api.Verdict{Kind: api.Unsat}
}

// least answers a problem with a goal.
func least(m api.Model) api.Verdict {
	best := api.Verdict{Kind: api.Unsat}
	goal := api.Model{Vars: m.Vars, HasGoal: m.HasGoal, Goal: m.Goal} // constraints don't bear on a worth
	for values := range Solutions(m) {
		worth := model.Worth(goal, values)
		if best.Kind == api.Unsat || worth < best.Worth {
			best = api.Verdict{Kind: api.Best, Worth: worth, Values: values}
		}
	}
	return best
}
