package unit

import (
	"hallmark/api"
	"hallmark/big"
	"hallmark/pb"
)

// none: no row.
const none = -1

// flow: unit propagation on its way, over those of its rows that were laid
// down. It stands still when no literal comes any more, or with a conflict.
type flow struct {
	sheets   []sheet
	states   []state     // of each row
	spots    []spot      // where literals stand in rows
	last     map[int]int // the last spot of each literal; 0: none
	laid     []int       // the rows that were laid down, in their order
	is       map[int]int // the literals that are true, each with its turn
	order    []int       // the same, by their turns
	done     int         // how many of them were taken off the slacks
	conflict int         // a row that was laid down and whose slack is below 0

	// tell is told each literal as it comes, and the row that asks for it.
	tell func(lit, row int)
}

// state: how far propagation has come with a row.
type state struct {
	slack big.Int
	above int // how many pieces, from the first one on, were found above the slack
	laid  bool
}

// spot: where a literal stands in a row. The spots of a literal are a chain.
type spot struct {
	coef   big.Int
	row    int
	before int // the literal's spot ahead of this one; 0: none
}

func newFlow(sheets []sheet, tell func(lit, row int)) *flow {
	pieces := countPieces(sheets)
	f := &flow{
		sheets:   sheets,
		states:   make([]state, len(sheets)),
		spots:    make([]spot, 1, 1+pieces),
		last:     make(map[int]int, pieces/2), // most literals stand in more rows than one
		is:       map[int]int{},
		conflict: none,
		tell:     tell,
	}
	for row, s := range sheets {
		f.states[row].slack = s.slack
		for _, p := range s.pieces {
			f.spots = append(f.spots, spot{p.coef, row, f.last[p.lit]})
			f.last[p.lit] = len(f.spots) - 1
		}
	}
	return f
}

func countPieces(sheets []sheet) int {
	n := 0
	for _, s := range sheets {
		n += len(s.pieces)
	}
	return n
}

func toNobody(int, int) {}

// everywhere tells the places of all rows.
func (f *flow) everywhere() []int {
	rows := make([]int, len(f.sheets))
	for i := range rows {
		rows[i] = i
	}
	return rows
}

// assume lets literals come that no row asks for; false: they clash.
func (f *flow) assume(lits []int) bool {
	for _, l := range lits {
		if _, e := pb.Lit(l); e != api.OK {
			continue
		}
		if f.isThere(-l) {
			return false
		}
		f.come(l, none)
	}
	return true
}

// lay lays rows down, and lets all literals come that follow then.
func (f *flow) lay(rows []int) {
	for _, row := range rows {
		f.laid = append(f.laid, row)
		f.states[row].laid = true
		f.settle(row)
	}
	for f.conflict == none && f.done < len(f.order) {
		f.takeOff(-f.order[f.done])
		f.done++
	}
}

// takeOff takes a literal that is false off the slacks of all rows, also
// behind a conflict, so that all of it can be put back.
func (f *flow) takeOff(lit int) {
	for at := f.last[lit]; at > 0; at = f.spots[at].before {
		s := f.spots[at]
		f.states[s.row].slack = f.states[s.row].slack.Sub(s.coef)
		if f.states[s.row].laid {
			f.settle(s.row)
		}
	}
}

// settle lets the literals of a row come that its slack asks for, or notes a
// conflict. A slack only falls, so that no piece is looked at twice.
func (f *flow) settle(row int) {
	s, pieces := &f.states[row], f.sheets[row].pieces
	if s.slack.Sign() < 0 {
		f.conflict = row
		return
	}
	for s.above < len(pieces) && pieces[s.above].coef.Cmp(s.slack) > 0 {
		f.come(pieces[s.above].lit, row)
		s.above++
	}
}

// come lets a literal come, unless it or its negation is there. (One that is
// false brings a conflict when it is taken off the slack.)
func (f *flow) come(lit, row int) {
	if f.isThere(lit) || f.isThere(-lit) {
		return
	}
	f.is[lit] = len(f.order)
	f.order = append(f.order, lit)
	f.tell(lit, row)
}

func (f *flow) isThere(lit int) bool {
	_, there := f.is[lit]
	return there
}
