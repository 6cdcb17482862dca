package audit_test

import (
	"slices"
	"strings"

	"hallmark/api"
	"hallmark/model"
	"hallmark/proof"
)

// counted: the solutions of a problem, in order: those of each value of its
// first variable, rising.
func counted(m api.Model) [][]int {
	var list [][]int
	var from func(ahead []int)
	from = func(ahead []int) {
		if len(ahead) == len(m.Vars) {
			if model.Solution(m, ahead) {
				list = append(list, slices.Clone(ahead))
			}
			return
		}
		next := m.Vars[len(ahead)]
		for v := next.Lo; v <= next.Hi; v++ {
			from(append(slices.Clone(ahead), v))
		}
	}
	from(nil)
	return list
}

// told: the verdict that P21.3 asks for, by a problem's solutions.
func told(m api.Model, solutions [][]int) api.Verdict {
	if len(solutions) == 0 {
		return api.Verdict{Kind: api.Unsat}
	}
	if !m.HasGoal {
		return api.Verdict{Kind: api.Sat, Values: solutions[0]}
	}
	worth := func(values []int) int {
		sum := 0
		for _, t := range m.Goal {
			sum += t.C * values[t.X]
		}
		return sum
	}
	least := slices.MinFunc(solutions, func(a, b []int) int { return worth(a) - worth(b) }) // the first one of several
	return api.Verdict{Kind: api.Best, Worth: worth(least), Values: least}
}

// weighed: a log's weight by P21.4's words, each number by itself, and the
// peak by what stands ahead of each place; or the fault.
func weighed(log string) (api.Weight, api.Fault) {
	var w api.Weight
	var steps []api.Step
	for i, line := range proof.Lines(log) {
		s, e := proof.Parse(line)
		if e != api.OK {
			return api.Weight{}, api.Fault{In: api.InLog, Line: i + 1, Err: e}
		}
		steps = append(steps, s)
	}
	there := func(steps []api.Step) (rows, gone int) {
		for _, s := range steps {
			switch s.Kind {
			case api.StepPol, api.StepRup, api.StepSolx:
				rows++
			case api.StepDel:
				gone += len(s.Ids)
			}
		}
		return rows, gone
	}
	w.Lines, w.Bytes = len(steps), len(log)
	w.Rows, w.Gone = there(steps)
	for n := range len(steps) + 1 {
		rows, gone := there(steps[:n])
		w.Peak = max(w.Peak, rows-gone)
	}
	for _, line := range strings.Split(log, "\n") {
		w.Longest = max(w.Longest, len(line))
	}
	for kind := range w.Kinds {
		for _, s := range steps {
			if s.Kind == kind {
				w.Kinds[kind]++
			}
		}
	}
	return w, api.Fault{}
}
