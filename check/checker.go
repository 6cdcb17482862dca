package check

import (
	"hallmark/api"
	"hallmark/base"
	"hallmark/pb"
	"hallmark/proof"
)

// checker: how far a log was taken. It embeds its base, the rows that are
// there by their ids.
type checker struct {
	*base.Base
	problem
	told    told
	kinds   [api.StepSame + 1]kind
	place   int
	verdict api.Verdict
}

// newChecker: of a right problem, ahead of its log's first line.
func newChecker(m api.Model) *checker {
	p := newProblem(m)
	return &checker{
		Base:    base.New(p.rows),
		problem: p,
		told:    told{ahead: map[key]struct{}{}},
		kinds:   allKinds(),
	}
}

// Places of a log, in their order, by what may stand there.
const (
	wantsHead = iota
	wantsCount
	wantsSteps // any number of them, and the output
	wantsEnds
	wantsLast
	wantsNothing
)

// kind: from which place till which one a kind of steps may stand, by how many
// places it leads on, and what it does.
type kind struct {
	from, till, on int
	do             func(c *checker, s api.Step) api.Errno
}

// allKinds makes the table of kinds, each at its number's place.
func allKinds() [api.StepSame + 1]kind {
	return [...]kind{
		api.StepHead:   {wantsHead, wantsHead, 1, (*checker).nothing},
		api.StepCount:  {wantsCount, wantsCount, 1, (*checker).count},
		api.StepPol:    {wantsSteps, wantsSteps, 0, (*checker).pol},
		api.StepRup:    {wantsSteps, wantsSteps, 0, (*checker).rup},
		api.StepSame:   {wantsSteps, wantsSteps, 0, (*checker).same},
		api.StepSoli:   {wantsSteps, wantsSteps, 0, (*checker).soli},
		api.StepSolx:   {wantsSteps, wantsSteps, 0, (*checker).solx},
		api.StepDel:    {wantsSteps, wantsSteps, 0, (*checker).del},
		api.StepNote:   {wantsCount, wantsLast, 0, (*checker).nothing},
		api.StepOutput: {wantsSteps, wantsSteps, 1, (*checker).nothing},
		api.StepEnds:   {wantsEnds, wantsEnds, 1, (*checker).ends},
		api.StepLast:   {wantsLast, wantsLast, 1, (*checker).nothing},
	}
}

// take takes a line, or tells why it isn't right.
func (c *checker) take(line string) api.Errno {
	s, e := proof.Parse(line)
	if e != api.OK {
		return e
	}
	k := c.kinds[s.Kind]
	if c.place < k.from || c.place > k.till {
		return api.ErrCheckOrder
	}
	c.place += k.on
	return k.do(c, s)
}

// add adds a row, unless there is an error in its place.
func (c *checker) add(r pb.Row, e api.Errno) api.Errno {
	if e != api.OK {
		return e
	}
	c.Add(r)
	return api.OK
}

// addPlain adds a row that is told as plain data, likewise.
func (c *checker) addPlain(plain api.Row, e api.Errno) api.Errno {
	if e != api.OK {
		return e
	}
	return c.add(pb.Of(plain))
}
