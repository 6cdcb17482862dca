package base_test

import (
	"fmt"
	"strconv"

	"hallmark/api"
	"hallmark/big"
	"hallmark/pb"
	"hallmark/unit"
)

// ledger: a base by the chapter's words: every row that ever was, at one place
// less than its id.
type ledger struct {
	rows []pb.Row
	gone []bool
	kept int
}

func (l *ledger) add(r pb.Row) int {
	l.rows, l.gone = append(l.rows, r), append(l.gone, false)
	return len(l.rows)
}

// place looks for an id among the texts of all of them.
func (l *ledger) place(id string) (int, bool) {
	for i := range l.rows {
		if strconv.Itoa(i+1) == id {
			return i, true
		}
	}
	return 0, false
}

func (l *ledger) row(id string) (pb.Row, api.Errno) {
	i, ever := l.place(id)
	if !ever {
		return pb.Row{}, api.ErrBaseUnknown
	}
	if l.gone[i] {
		return pb.Row{}, api.ErrBaseGone
	}
	return l.rows[i], api.OK
}

func (l *ledger) drop(id string) api.Errno {
	i, ever := l.place(id)
	if !ever {
		return api.ErrBaseUnknown
	}
	if i < l.kept {
		return api.ErrBaseKept
	}
	if l.gone[i] {
		return api.ErrBaseGone
	}
	l.gone[i] = true
	return api.OK
}

// standing: see the function of that name.
func (l *ledger) standing() string {
	there, n, each := "", 0, ""
	for i := -1; i <= len(l.rows); i++ {
		r, e := l.row(strconv.Itoa(i + 1))
		each += fmt.Sprintf(" %s %d;", text(r), e)
		if e == api.OK {
			n++
			there += strconv.Itoa(i+1) + ": " + text(r) + "; "
		}
	}
	return fmt.Sprintf("%s%d there, then %d;%s", there, n, len(l.rows)+1, each)
}

func (l *ledger) rup(r pb.Row) bool {
	var there []pb.Row
	for i, one := range l.rows {
		if !l.gone[i] {
			there = append(there, one)
		}
	}
	return unit.Shows(there, r)
}

func (l *ledger) rupOf(r pb.Row, ids []string) (bool, api.Errno) {
	var some []pb.Row
	for _, id := range ids {
		one, e := l.row(id)
		if e != api.OK {
			return false, e
		}
		some = append(some, one)
	}
	return unit.Shows(some, r), api.OK
}

// pile: a row, and what it lies on.
type pile struct {
	row  pb.Row
	deep int // how many rows lie there
	on   *pile
}

func laid(r pb.Row, on *pile) *pile {
	if on == nil {
		return &pile{r, 1, nil}
	}
	return &pile{r, on.deep + 1, on}
}

// pol goes by P9.3's words, each op from what those ahead of it left.
func (l *ledger) pol(ops []api.Op) (pb.Row, api.Errno) {
	var top *pile
	for _, o := range ops {
		next, e := l.after(o, top)
		if e != api.OK {
			return pb.Row{}, e
		}
		top = next
	}
	if top == nil || top.deep != 1 {
		return pb.Row{}, api.ErrBaseStack
	}
	return top.row, api.OK
}

func (l *ledger) after(o api.Op, top *pile) (*pile, api.Errno) {
	if o.Kind == api.OpRow {
		r, e := l.row(o.N)
		return laid(r, top), e
	}
	if o.Kind == api.OpLit {
		r, e := pb.Lit(o.L)
		return laid(r, top), e
	}
	if top == nil || o.Kind < 1 || o.Kind > api.OpWeaken || o.Kind == api.OpAdd && top.on == nil {
		return nil, api.ErrBaseStack
	}
	if o.Kind == api.OpAdd {
		return laid(top.row.Add(top.on.row), top.on.on), api.OK
	}
	if o.Kind == api.OpSaturate {
		return laid(top.row.Saturate(), top.on), api.OK
	}
	if o.Kind == api.OpWeaken {
		if _, e := pb.Lit(o.L); o.L < 0 || e != api.OK {
			return nil, api.ErrPbLit
		}
		return laid(top.row.Weaken(o.L), top.on), api.OK
	}
	n, e := big.Parse(o.N)
	if e != api.OK {
		return nil, api.ErrPbNumber
	}
	if n.Sign() <= 0 {
		return nil, api.ErrPbFactor
	}
	r, _ := top.row.Times(n)
	if o.Kind == api.OpDiv {
		r, _ = top.row.Div(n)
	}
	return laid(r, top.on), api.OK
}
