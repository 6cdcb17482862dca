package unit

import "slices"

// leant tells on which rows the conflict leans that all rows come to, the last
// one left out; false: they come to none.
func leant(sheets []sheet) ([]int, bool) {
	var askers []int
	f := newFlow(sheets, func(_, row int) { askers = append(askers, row) })
	f.lay(f.everywhere())
	if f.conflict == none {
		return nil, false
	}
	var rows []int
	for row, marked := range f.leansOn(askers)[:len(sheets)-1] {
		if marked {
			rows = append(rows, row)
		}
	}
	return rows, true
}

// leansOn marks the rows on which the conflict leans: that one, and each that
// asked for a literal which is false in a marked row. (Askers: of each literal,
// by their turns. One that came behind what a row asked for is marked too late
// to be looked at.)
func (f *flow) leansOn(askers []int) []bool {
	marked := make([]bool, len(f.sheets))
	wanted := make([]bool, len(askers))
	mark := func(row int) {
		marked[row] = true
		for _, p := range f.sheets[row].pieces {
			if turn, isFalse := f.is[-p.lit]; isFalse {
				wanted[turn] = true
			}
		}
	}
	mark(f.conflict)
	for turn, row := range slices.Backward(askers) {
		if wanted[turn] {
			mark(row)
		}
	}
	return marked
}

// least tells, of rows that come to a conflict, such as do so with the last one,
// and of which none can be left out; the last one isn't told.
func least(sheets []sheet) []int {
	f := newFlow(sheets, toNobody)
	rows := f.everywhere()
	last := len(rows) - 1
	f.lay(rows[last:])
	if f.conflict != none {
		return nil
	}
	return f.needed(rows[:last])
}

// needed tells, of rows that come to a conflict with those that are laid down,
// which don't by themselves, some that do so too, and of which none can be
// left out. Of the second half those are needed without which the first half
// doesn't do; and of the first half those without which these don't.
func (f *flow) needed(rows []int) []int {
	if len(rows) == 1 {
		return slices.Clone(rows)
	}
	half := len(rows) / 2
	second := f.neededWith(rows[:half], rows[half:])
	first := f.neededWith(second, rows[:half])
	return append(first, second...)
}

// neededWith lays down more rows for as long as it asks which of others are needed.
func (f *flow) neededWith(more, others []int) []int {
	came, laid := len(f.order), len(f.laid)
	f.lay(more)
	var rows []int
	if f.conflict == none {
		rows = f.needed(others)
	}
	f.backTo(came, laid)
	return rows
}

// backTo takes rows and literals away again but for the first ones; there must
// have been no conflict then.
func (f *flow) backTo(came, laid int) {
	for _, row := range f.laid[laid:] {
		f.states[row].laid, f.states[row].above = false, 0
	}
	for _, lit := range f.order[came:f.done] {
		f.putBack(-lit)
	}
	for _, lit := range f.order[came:] {
		delete(f.is, lit)
	}
	f.laid, f.order, f.done, f.conflict = f.laid[:laid], f.order[:came], came, none
}

// putBack undoes takeOff.
func (f *flow) putBack(lit int) {
	for at := f.last[lit]; at > 0; at = f.spots[at].before {
		s := &f.states[f.spots[at].row]
		s.slack = s.slack.Add(f.spots[at].coef)
		pieces := f.sheets[f.spots[at].row].pieces
		for s.above > 0 && pieces[s.above-1].coef.Cmp(s.slack) <= 0 {
			s.above--
		}
	}
}
