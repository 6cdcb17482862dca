package trim

import (
	"slices"

	"hallmark/api"
)

// Why a line stays.
const (
	framing = iota // no log begins and ends otherwise
	telling        // the verdict is about the solution that it tells
	named          // the id of a row that it brings is named further on
	whys
)

// marks: for which of these a line stays; one that has none goes.
type marks [whys]bool

func (l line) stays() bool { return l.marks != marks{} }

// mark marks the lines that stay.
func (l *ledger) mark(verdict int) {
	l.markSure(verdict)
	for at := range slices.Backward(l.lines) { // what names a row stands behind it
		l.withdraw(l.lines[at])
		if l.lines[at].stays() {
			l.lean(&l.lines[at])
		}
	}
}

// markSure marks the lines that stay whatever is named.
func (l *ledger) markSure(verdict int) {
	told := 0
	for at := range slices.Backward(l.lines) {
		one := &l.lines[at]
		switch one.step.Kind {
		case api.StepHead, api.StepCount, api.StepOutput, api.StepEnds, api.StepLast:
			one.marks[framing] = true
		case api.StepSoli, api.StepSolx:
			one.marks[telling] = isAbout(verdict, told)
			told++
		}
	}
}

// isAbout tells whether a verdict is about a solution behind which so many
// others were told.
func isAbout(verdict, others int) bool {
	switch verdict {
	case api.Sat, api.Best, api.Bounds:
		return others == 0
	}
	return verdict == api.All
}

// withdraw goes back over a line: the rows are there that were ahead of it.
func (l *ledger) withdraw(one line) {
	if one.id > 0 { // of those that were given by then it is the greatest
		l.there = l.there[:len(l.there)-1]
	}
	if one.step.Kind != api.StepDel {
		return
	}
	for _, id := range one.step.Ids {
		n := number(id)
		at, _ := slices.BinarySearch(l.there, n)
		l.there = slices.Insert(l.there, at, n)
	}
}

// lean marks the lines whose rows a line that stays names; a rup names as few
// as it can.
func (l *ledger) lean(one *line) {
	if one.step.Kind == api.StepRup {
		one.step.Ids = l.hints(*one)
	}
	for id := range names(one.step) {
		l.bringer(number(*id)).marks[named] = true
	}
}
