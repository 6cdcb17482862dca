package order

import (
	"slices"

	"hallmark/api"
)

// variable: what stands for one.
type variable struct {
	steps
	points
}

// mark: of [x at least k] and of [x is v], how many numbers are ahead of a
// variable's own.
type mark [2]int

const (
	ofSteps = iota
	ofPoints
)

// ahead tells, of both, whether number n is ahead of the variable's own.
func (m mark) ahead(n int) [2]bool {
	return [2]bool{n <= m[ofSteps], n <= m[ofPoints]}
}

// next gives the next numbers to what tells from up to to.
func (o *Order) next(from, to int) run {
	r := run{ahead: o.count, from: from, to: to}
	o.count += r.size()
	return r
}

func (o *Order) laySteps(vars []api.Var) {
	for x, v := range vars {
		o.marks[x][ofSteps] = o.count
		o.vars[x].steps = steps{o.next(v.Lo+1, v.Hi)}
	}
	o.marks[len(vars)][ofSteps] = o.count
}

func (o *Order) layPoints(vars []api.Var, cons []api.Con) {
	asked := asksIs(cons)
	for x, v := range vars {
		o.marks[x][ofPoints] = o.count
		to := v.Lo - 1
		if asked[x] {
			to = v.Hi
		}
		o.vars[x].points = points{o.next(v.Lo, to)}
	}
	o.marks[len(vars)][ofPoints] = o.count
}

// asksIs tells of which variables constraints ask for [x is v].
func asksIs(cons []api.Con) [api.MaxVars]bool {
	var asked [api.MaxVars]bool
	for _, c := range cons {
		if c.Kind != api.AllDiff && c.Kind != api.Count {
			continue
		}
		for _, x := range c.Xs {
			asked[x] = true
		}
	}
	return asked
}

func (o *Order) layPicks(cons []api.Con) {
	for c, con := range cons {
		if con.Kind != api.Table {
			o.picks[c].run = o.next(0, -1)
			continue
		}
		o.picks[c] = picks{o.next(0, len(con.Rows)-1), slices.Clone(con.Xs), entries(con.Rows)}
	}
}

func entries(rows [][]int) []entry {
	list := make([]entry, len(rows))
	for r, row := range rows {
		copy(list[r][:], row)
	}
	return list
}
