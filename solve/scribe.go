package solve

import (
	"slices"

	"hallmark/api"
	"hallmark/dom"
	"hallmark/number"
	"hallmark/write"
)

// scribe writes the log of a search. It holds to this: from the decisions that
// stand, propagation over the rows that are there comes to the bounds of each
// domain, and each value that is missing between them has a row that says so.
type scribe struct {
	*write.Log
	*number.Number
	cons   []api.Con
	told   *dom.Store // the domains as far as the log tells of them
	not    []int      // of each decision that stands its negation
	rows   []int      // ids of rows that hold under them, and go with them
	denied denials    // likewise
	crowds []crowd    // intervals that have a row, among the prunings of one node
	less   int        // id of the row that the worth is less; 0: none
}

func newScribe(m api.Model) *scribe {
	n := number.New(m)
	return &scribe{
		Log:    write.New(n.Rows(), m.HasGoal),
		Number: n,
		cons:   m.Cons,
		told:   dom.New(m),
		denied: newDenials(n.Count()),
	}
}

// clause writes that not all decisions hold that stand, or one of some
// literals: the id of the row.
func (w *scribe) clause(lits ...int) int {
	r := api.Row{Degree: "1"}
	for _, l := range slices.Concat(w.not, lits) {
		r.Pieces = append(r.Pieces, api.Piece{C: "1", L: l})
	}
	id, _ := w.Rup(r, nil)
	return id
}

// lay writes a clause likewise, that goes with the decisions.
func (w *scribe) lay(lits ...int) int {
	id := w.clause(lits...)
	w.rows = append(w.rows, id)
	return id
}

// tell writes the prunings of a node.
func (w *scribe) tell(causes []api.Cause) {
	w.crowds = nil
	for _, c := range causes {
		w.explain(c)
		w.lay(w.cut(c.Cut)...)
	}
}

// cut tells the literals that say what a cut leaves: a bound, if that moves.
func (w *scribe) cut(c api.Cut) []int {
	lo, hi := w.told.Lo(c.X), w.told.Hi(c.X)
	w.told.Cut(c)
	if now := w.told.Lo(c.X); now > lo {
		c = api.Cut{Kind: api.AtLeast, X: c.X, V: now}
	}
	if now := w.told.Hi(c.X); now < hi {
		c = api.Cut{Kind: api.AtMost, X: c.X, V: now}
	}
	lits, _ := w.Fact(c)
	return lits
}

// part: how much was there ahead of a decision.
type part struct{ mark, rows, denied int }

// suppose makes a cut a decision.
func (w *scribe) suppose(c api.Cut) part {
	p := part{w.told.Mark(), len(w.rows), len(w.denied.list)}
	w.told.Cut(c)
	lits, _ := w.Fact(c) // a split is between two values: it has just one
	for _, l := range lits {
		w.not = append(w.not, -l)
	}
	return p
}

// refute writes that the last decision fails under those ahead of it, and takes
// away what held under it.
func (w *scribe) refute(p part) {
	id := w.clause()
	if gone := w.rows[p.rows:]; len(gone) > 0 {
		w.Del(gone)
	}
	w.rows = append(w.rows[:p.rows], id)
	w.denied.keep(p.denied)
	w.not = w.not[:len(w.not)-1]
	w.told.Back(p.mark)
}

// outdo writes a solution, and with it that a better one is asked for.
func (w *scribe) outdo(values []int) {
	last := w.less
	w.less, _ = w.Soli(w.Solution(values))
	if last > 0 {
		w.Del([]int{last})
	}
}

// exclude writes a solution, and with it that another one is asked for.
func (w *scribe) exclude(values []int) {
	id, _ := w.Solx(w.Solution(values))
	w.rows = append(w.rows, id)
}
