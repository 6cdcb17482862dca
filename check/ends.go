package check

import (
	"slices"

	"hallmark/api"
	"hallmark/big"
	"hallmark/encode"
	"hallmark/model"
	"hallmark/pb"
)

// claim: what a kind of conclusions asks for, and the verdict that follows.
type claim struct {
	ends func(c *checker, s api.Step) (api.Verdict, api.Errno)
}

// claims makes the table of conclusions, each at its kind's place.
func claims() [api.All + 1]claim {
	return [...]claim{
		api.None:   {(*checker).none},
		api.Unsat:  {(*checker).unsat},
		api.Sat:    {(*checker).sat},
		api.Bounds: {(*checker).bounds},
		api.All:    {(*checker).all},
	}
}

func (c *checker) ends(s api.Step) api.Errno {
	var e api.Errno
	c.verdict, e = claims()[s.Ends].ends(c, s)
	return e
}

// refused: the answer to a claim that fails.
func refused(e api.Errno) (api.Verdict, api.Errno) { return api.Verdict{}, e }

func (c *checker) none(api.Step) (api.Verdict, api.Errno) {
	return api.Verdict{Kind: api.None}, api.OK
}

func (c *checker) unsat(s api.Step) (api.Verdict, api.Errno) {
	if !c.told.none() || len(s.Ids) == 0 {
		return refused(api.ErrCheckEnds)
	}
	if e := c.contradicts(s.Ids[0]); e != api.OK {
		return refused(e)
	}
	return api.Verdict{Kind: api.Unsat}, api.OK
}

func (c *checker) sat(api.Step) (api.Verdict, api.Errno) {
	if c.model.HasGoal || c.told.none() {
		return refused(api.ErrCheckEnds)
	}
	return api.Verdict{Kind: api.Sat, Values: c.told.last}, api.OK
}

func (c *checker) all(s api.Step) (api.Verdict, api.Errno) {
	if c.told.solis > 0 || !writes(s.High, c.told.solxs) {
		return refused(api.ErrCheckEnds)
	}
	if e := c.contradicts(s.Ids[0]); e != api.OK {
		return refused(e)
	}
	return api.Verdict{Kind: api.All, Count: c.told.solxs}, api.OK
}

// contradicts asks that the row of an id is a contradiction.
func (c *checker) contradicts(id string) api.Errno {
	r, e := c.Row(id)
	if e == api.OK && !r.Contradiction() {
		return api.ErrCheckEnds
	}
	return e
}

func (c *checker) bounds(s api.Step) (api.Verdict, api.Errno) {
	if !c.model.HasGoal || c.told.solxs > 0 || c.told.none() {
		return refused(api.ErrCheckEnds)
	}
	worth := model.Worth(c.model, c.told.last)
	low, e := big.Parse(s.Low)
	if e != api.OK || !writes(s.High, worth) || low.Cmp(big.Of(worth)) > 0 {
		return refused(api.ErrCheckEnds)
	}
	floor := big.Of(model.Floor(c.model))
	if e := c.reaches(s, low, floor); e != api.OK {
		return refused(e)
	}
	if low.Cmp(floor) < 0 {
		low = floor
	}
	least, _ := low.Small() // it is between the floor and the worth
	if least == worth {
		return api.Verdict{Kind: api.Best, Worth: worth, Values: c.told.last}, api.OK
	}
	return api.Verdict{Kind: api.Bounds, Low: least, Worth: worth, Values: c.told.last}, api.OK
}

// reaches asks that no worth is below low: by the row of the id that a
// conclusion names, or by the floor, if it names none.
func (c *checker) reaches(s api.Step, low, floor big.Int) api.Errno {
	if len(s.Ids) > 0 {
		return c.bears(s.Ids[0], s.Low)
	}
	if low.Cmp(floor) > 0 {
		return api.ErrCheckEnds
	}
	return api.OK
}

// bears asks that the row of an id is a contradiction, or says that the worth
// is at least low.
func (c *checker) bears(id, low string) api.Errno {
	r, e := c.Row(id)
	if e != api.OK {
		return e
	}
	plain, e := encode.AtLeast(c.model, low)
	if e != api.OK {
		return e
	}
	wanted, e := pb.Of(plain)
	if e != api.OK {
		return e
	}
	says := slices.Equal(r.Plain().Pieces, wanted.Plain().Pieces) && r.Degree().Cmp(wanted.Degree()) >= 0
	if !says && !r.Contradiction() {
		return api.ErrCheckEnds
	}
	return api.OK
}
