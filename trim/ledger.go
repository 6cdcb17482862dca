package trim

import (
	"hallmark/api"
	"hallmark/base"
	"hallmark/pb"
)

// ledger: the lines of a right log, and the rows of all ids that it gave.
type ledger struct {
	lines []line
	rows  []row
	laid  int   // how many rows are the problem's: they have the first ids
	there []int // ids of the rows that are there behind the line at hand, rising
}

// line: a step, the id of the row that it adds (0: none), and why it stays.
type line struct {
	step  api.Step
	id    int
	marks marks
}

// row: that of an id, and the place of the line that brings it: the problem's
// come with the head.
type row struct {
	is   pb.Row
	line int
}

// replayed goes through a right log as the checker does, and stands behind its
// last line then.
func replayed(m api.Model, steps []api.Step) *ledger {
	p := newProblem(m)
	l := &ledger{laid: len(p.rows)}
	for _, r := range p.rows {
		l.rows = append(l.rows, row{is: r})
	}
	b := base.New(p.rows)
	for _, s := range steps {
		l.take(p, b, s)
	}
	for id := range b.All() {
		l.there = append(l.there, id)
	}
	return l
}

func (l *ledger) take(p *problem, b *base.Base, s api.Step) {
	one := line{step: s}
	if r, adds := p.adds(b, s); adds {
		one.id = b.Add(r)
		l.rows = append(l.rows, row{r, len(l.lines)})
	}
	if s.Kind == api.StepDel {
		for _, id := range s.Ids {
			b.Drop(id)
		}
	}
	l.lines = append(l.lines, one)
}

// row tells that of an id.
func (l *ledger) row(id int) row { return l.rows[id-1] }

// bringer tells the line that brings the row of an id.
func (l *ledger) bringer(id int) *line { return &l.lines[l.row(id).line] }
