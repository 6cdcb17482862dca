package solve

import (
	"slices"
	"strconv"

	"hallmark/api"
)

// explain writes what the checker can't see by itself of a pruning, or of a
// failing: of most constraints it finds all by propagation.
func (w *scribe) explain(c api.Cause) {
	if c.Con == len(w.cons) { // the goal's: a sum
		return
	}
	switch con := w.cons[c.Con]; con.Kind {
	case api.AllDiff:
		w.explainCrowd(c.Con, c.Hall)
	case api.Table:
		w.explainTable(c.Con, con)
	case api.Count:
		w.explainCount(con)
	}
}

// deny writes that a pseudo-Boolean variable is false, unless that was written.
func (w *scribe) deny(n int) {
	if w.denied.add(n) {
		w.lay(-n)
	}
}

// isBetween tells whether a number lies between a variable's bounds. Beyond
// them propagation sees what the variable isn't; between them it doesn't see
// that of a value which is missing, unless it is asked for it.
func (w *scribe) isBetween(x, v int) bool { return v >= w.told.Lo(x) && v <= w.told.Hi(x) }

// explainCount: who doesn't have the value, isn't it. (Where at most so many may
// have it, only those bear on it that must.)
func (w *scribe) explainCount(con api.Con) {
	if con.Op == api.Le {
		return
	}
	for _, x := range con.Xs {
		if n, _ := w.Is(x, con.V); w.isBetween(x, con.V) && !w.told.Has(x, con.V) {
			w.deny(n)
		}
	}
}

// explainTable: a row with a value that its variable doesn't have isn't it.
func (w *scribe) explainTable(place int, con api.Con) {
	for r, row := range con.Rows {
		between, had := true, true
		for i, x := range con.Xs {
			between = between && w.isBetween(x, row[i])
			had = had && w.told.Has(x, row[i])
		}
		if n, _ := w.Pick(place, r); between && !had {
			w.deny(n)
		}
	}
}

// crowd: an interval of an AllDiff that was explained. What isn't within it has
// lost all its values, so that at the same node no more come to be within.
type crowd struct{ con, from, to int }

// explainCrowd: each within the interval has one of its numbers, and no two have
// the same: all that together is a row that leaves none of them to others.
func (w *scribe) explainCrowd(place int, h api.Hall) {
	is := crowd{place, h.From, h.To}
	if slices.Contains(w.crowds, is) {
		return
	}
	w.crowds = append(w.crowds, is)
	ids := w.haveSome(h.Xs)
	for v := h.From; v <= h.To; v++ {
		if id, has := w.Alone(place, v); has { // a number that no two ever had has none
			ids = append(ids, id)
		}
	}
	id, _ := w.Pol(sum(ids))
	w.rows = append(w.rows, id)
}

// haveSome writes that each variable is one of its values: of each place the id
// of a row.
func (w *scribe) haveSome(xs []int) []int {
	var ofVar [api.MaxVars]int
	var ids []int
	for _, x := range xs {
		if ofVar[x] == 0 {
			ofVar[x] = w.hasSome(x)
		}
		ids = append(ids, ofVar[x])
	}
	return ids
}

func (w *scribe) hasSome(x int) int {
	var lits []int
	for _, v := range w.told.Values(x) {
		n, _ := w.Is(x, v)
		lits = append(lits, n)
	}
	return w.lay(lits...)
}

// sum tells the operations that add rows up.
func sum(ids []int) []api.Op {
	var ops []api.Op
	for i, id := range ids {
		ops = append(ops, api.Op{Kind: api.OpRow, N: strconv.Itoa(id)})
		if i > 0 {
			ops = append(ops, api.Op{Kind: api.OpAdd})
		}
	}
	return ops
}
