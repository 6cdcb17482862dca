package check

import (
	"slices"

	"hallmark/api"
	"hallmark/big"
	"hallmark/pb"
)

func (c *checker) nothing(api.Step) api.Errno { return api.OK }

func (c *checker) count(s api.Step) api.Errno {
	if !writes(s.N, len(c.rows)) {
		return api.ErrCheckCount
	}
	return api.OK
}

func (c *checker) pol(s api.Step) api.Errno {
	for _, op := range s.Ops {
		if (op.Kind == api.OpLit || op.Kind == api.OpWeaken) && c.beyond(op.L) {
			return api.ErrCheckLit
		}
	}
	return c.add(c.Pol(s.Ops))
}

func (c *checker) rup(s api.Step) api.Errno {
	r, e := c.row(s.Row)
	if e != api.OK {
		return e
	}
	shown, e := c.shows(r, s.Ids)
	switch {
	case e != api.OK:
		return e
	case !shown:
		return api.ErrCheckRup
	}
	return c.add(r, api.OK)
}

// shows tells whether the rows of some ids show a row, or, if there are none,
// all rows do that are there.
func (c *checker) shows(r pb.Row, ids []string) (bool, api.Errno) {
	if len(ids) > 0 {
		return c.RupOf(r, ids)
	}
	return c.Rup(r), api.OK
}

func (c *checker) same(s api.Step) api.Errno {
	r, e := c.row(s.Row)
	if e != api.OK {
		return e
	}
	there, e := c.Row(s.Ids[0])
	switch {
	case e != api.OK:
		return e
	case !pb.Same(there, r):
		return api.ErrCheckSame
	}
	return api.OK
}

// row brings a step's row to the one form. Its pieces are asked as they stand:
// the one form may have lost a variable that is beyond the problem's.
func (c *checker) row(plain api.Row) (pb.Row, api.Errno) {
	r, e := pb.Of(plain)
	switch {
	case e != api.OK:
		return pb.Row{}, e
	case slices.ContainsFunc(plain.Pieces, func(p api.Piece) bool { return c.beyond(p.L) }):
		return pb.Row{}, api.ErrCheckLit
	}
	return r, api.OK
}

func (c *checker) del(s api.Step) api.Errno {
	for _, id := range s.Ids {
		if e := c.Drop(id); e != api.OK {
			return e
		}
	}
	return api.OK
}

// writes tells whether a text writes a number; each number has one text.
func writes(text string, n int) bool { return text == big.Of(n).Text() }
