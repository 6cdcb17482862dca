package check_test

import (
	"errors"
	"fmt"
	"math/big"
	"slices"
	"strconv"
	"strings"
	"testing"

	"hallmark/api"
	"hallmark/base"
	"hallmark/encode"
	"hallmark/model"
	"hallmark/order"
	"hallmark/pb"
	"hallmark/proof"
	problem "hallmark/text"
	"hallmark/unit"
)

// clerk: the chapter's words, one by one. It keeps every step that was taken,
// and asks these anew whenever it wants to know something of them.
type clerk struct {
	m     api.Model
	o     *order.Order
	first []pb.Row
	base  *base.Base
	taken []api.Step
	tells [][]int // the solution of each step taken that told one; else nil
}

func newClerk(t *testing.T, m api.Model) *clerk {
	t.Helper()
	o, e := order.New(m)
	plain, _ := encode.Rows(m)
	c := &clerk{m: m, o: o}
	for _, r := range plain {
		c.first = append(c.first, formed(r))
	}
	if e != api.OK {
		t.Fatalf("%+v: %d", m, e)
	}
	c.base = base.New(c.first)
	return c
}

func formed(plain api.Row) pb.Row {
	r, e := pb.Of(plain)
	if e != api.OK {
		panic(fmt.Sprint(plain, ": ", e))
	}
	return r
}

// judged tells what the clerk says of a log, as says tells it of Check.
func judged(t *testing.T, m, log string) string {
	t.Helper()
	p, err := problem.Parse(m)
	var f *api.Fault
	if errors.As(err, &f) {
		return fault(f)
	}
	c := newClerk(t, p)
	list := proof.Lines(log)
	for i, line := range list {
		if e := c.take(line); e != api.OK {
			return fmt.Sprintf("%d at %d", int(e), i+1)
		}
	}
	if !whole.MatchString(c.kinds()) {
		return fmt.Sprintf("100 at %d", len(list)+1)
	}
	for _, s := range c.taken {
		if s.Kind == api.StepEnds {
			v, _ := c.claim(s)
			return verdict(t, v)
		}
	}
	return "?"
}

func (c *clerk) kinds() string {
	all := ""
	for _, s := range c.taken {
		all += letters[s.Kind]
	}
	return all
}

// count tells how many steps of a kind were taken.
func (c *clerk) count(kind int) int { return strings.Count(c.kinds(), letters[kind]) }

func (c *clerk) take(line string) api.Errno {
	s, e := proof.Parse(line)
	if e != api.OK {
		return e
	}
	if !onItsWay.MatchString(c.kinds() + letters[s.Kind]) {
		return api.ErrCheckOrder
	}
	adds, values, e := c.asked(s)
	if e != api.OK {
		return e
	}
	for _, r := range adds {
		c.base.Add(r)
	}
	c.taken, c.tells = append(c.taken, s), append(c.tells, values)
	return api.OK
}

// asked tells which rows a step adds, which solution it tells, and what is wrong with it.
func (c *clerk) asked(s api.Step) (adds []pb.Row, values []int, e api.Errno) {
	switch s.Kind {
	case api.StepCount:
		if s.N != strconv.Itoa(len(c.first)) {
			e = api.ErrCheckCount
		}
	case api.StepPol:
		adds, e = c.pol(s)
	case api.StepRup:
		adds, e = c.rup(s)
	case api.StepSame:
		e = c.same(s)
	case api.StepSoli, api.StepSolx:
		return c.solution(s)
	case api.StepDel:
		for _, id := range s.Ids {
			if e == api.OK {
				e = c.base.Drop(id)
			}
		}
	case api.StepEnds:
		_, e = c.claim(s)
	}
	return adds, nil, e
}

func (c *clerk) above(lits ...int) bool {
	return slices.ContainsFunc(lits, func(l int) bool { return l > c.o.Count() || -l > c.o.Count() })
}

func (c *clerk) pol(s api.Step) ([]pb.Row, api.Errno) {
	for _, o := range s.Ops {
		if c.above(o.L) { // of other operations it is 0
			return nil, api.ErrCheckLit
		}
	}
	r, e := c.base.Pol(s.Ops)
	return []pb.Row{r}, e
}

func (c *clerk) rup(s api.Step) ([]pb.Row, api.Errno) {
	for _, p := range s.Row.Pieces {
		if c.above(p.L) {
			return nil, api.ErrCheckLit
		}
	}
	r := formed(s.Row)
	shown, e := c.base.Rup(r), api.OK
	if len(s.Ids) > 0 {
		shown, e = c.base.RupOf(r, s.Ids)
	}
	if e == api.OK && !shown {
		e = api.ErrCheckRup
	}
	return []pb.Row{r}, e
}

func (c *clerk) same(s api.Step) api.Errno {
	for _, p := range s.Row.Pieces {
		if c.above(p.L) {
			return api.ErrCheckLit
		}
	}
	r, e := c.base.Row(s.Ids[0])
	if e == api.OK && fmt.Sprint(r.Plain()) != fmt.Sprint(formed(s.Row).Plain()) {
		e = api.ErrCheckSame
	}
	return e
}

func (c *clerk) solution(s api.Step) (adds []pb.Row, values []int, e api.Errno) {
	if c.above(s.Lits...) {
		return nil, nil, api.ErrCheckLit
	}
	values = c.followed(s.Lits)
	if values == nil || !model.Solution(c.m, values) {
		return nil, nil, api.ErrCheckSoli
	}
	less, _ := encode.Less(c.m, model.Worth(c.m, values))
	for _, ahead := range c.tells {
		switch {
		case ahead == nil:
		case s.Kind == api.StepSolx && slices.Equal(values, ahead):
			return nil, nil, api.ErrCheckSoli
		case s.Kind == api.StepSoli && c.m.HasGoal && model.Worth(c.m, values) >= model.Worth(c.m, ahead):
			return nil, nil, api.ErrCheckSoli
		}
	}
	if s.Kind == api.StepSolx {
		unlike, _ := encode.Unlike(c.m, values)
		return []pb.Row{formed(unlike)}, values, api.OK
	}
	if c.m.HasGoal {
		adds = []pb.Row{formed(less)}
	}
	return adds, values, api.OK
}

// followed tells the values that follow from literals; none: nothing does.
func (c *clerk) followed(lits []int) []int {
	named := map[int]bool{}
	for _, l := range lits {
		if named[l] || named[-l] {
			return nil
		}
		named[l] = true
	}
	all, ok := unit.Run(c.first, lits)
	if !ok {
		return nil
	}
	var values []int
	for x, v := range c.m.Vars {
		value := v.Lo
		for k := v.Lo + 1; k <= v.Hi; k++ {
			n, _ := c.o.AtLeast(x, k)
			switch {
			case slices.Contains(all, n):
				value++
			case !slices.Contains(all, -n):
				return nil
			}
		}
		values = append(values, value)
	}
	return values
}

// last tells the solution told last; none: there is none.
func (c *clerk) last() []int {
	for _, values := range slices.Backward(c.tells) {
		if values != nil {
			return values
		}
	}
	return nil
}

// claim tells the verdict of a conclusion.
func (c *clerk) claim(s api.Step) (api.Verdict, api.Errno) {
	told, fails := c.last(), api.Verdict{}
	switch s.Ends {
	case api.None:
		return api.Verdict{Kind: api.None}, api.OK
	case api.Unsat:
		if told != nil || len(s.Ids) == 0 {
			return fails, api.ErrCheckEnds
		}
		return api.Verdict{Kind: api.Unsat}, c.cannot(s.Ids[0])
	case api.Sat:
		if c.m.HasGoal || told == nil {
			return fails, api.ErrCheckEnds
		}
		return api.Verdict{Kind: api.Sat, Values: told}, api.OK
	case api.All:
		n := c.count(api.StepSolx)
		if c.count(api.StepSoli) > 0 || s.High != strconv.Itoa(n) {
			return fails, api.ErrCheckEnds
		}
		return api.Verdict{Kind: api.All, Count: n}, c.cannot(s.Ids[0])
	}
	if !c.m.HasGoal || c.count(api.StepSolx) > 0 || told == nil {
		return fails, api.ErrCheckEnds
	}
	return c.bounds(s, told)
}

// cannot asks that a row is a contradiction.
func (c *clerk) cannot(id string) api.Errno {
	r, e := c.base.Row(id)
	if e == api.OK && r.Total().Cmp(r.Degree()) >= 0 {
		return api.ErrCheckEnds
	}
	return e
}

func (c *clerk) bounds(s api.Step, told []int) (api.Verdict, api.Errno) {
	low, _ := new(big.Int).SetString(s.Low, 10)
	high, _ := new(big.Int).SetString(s.High, 10)
	worth, floor := model.Worth(c.m, told), model.Floor(c.m)
	if high.Cmp(big.NewInt(int64(worth))) != 0 || low.Cmp(high) > 0 {
		return api.Verdict{}, api.ErrCheckEnds
	}
	if len(s.Ids) == 0 && low.Cmp(big.NewInt(int64(floor))) > 0 {
		return api.Verdict{}, api.ErrCheckEnds
	}
	if len(s.Ids) > 0 {
		r, e := c.base.Row(s.Ids[0])
		if e != api.OK {
			return api.Verdict{}, e
		}
		if c.cannot(s.Ids[0]) != api.OK && !c.atLeast(r, s.Low) {
			return api.Verdict{}, api.ErrCheckEnds
		}
	}
	if low.Cmp(big.NewInt(int64(floor))) < 0 {
		low = big.NewInt(int64(floor))
	}
	if low.Cmp(high) == 0 {
		return api.Verdict{Kind: api.Best, Worth: worth, Values: told}, api.OK
	}
	return api.Verdict{Kind: api.Bounds, Low: int(low.Int64()), Worth: worth, Values: told}, api.OK
}

// atLeast: the row says that the worth is at least low.
func (c *clerk) atLeast(r pb.Row, low string) bool {
	wanted, _ := encode.AtLeast(c.m, low)
	is, asked := r.Plain(), wanted
	if len(is.Pieces) != len(asked.Pieces) {
		return false
	}
	for i, p := range is.Pieces {
		if p != asked.Pieces[i] {
			return false
		}
	}
	a, _ := new(big.Int).SetString(is.Degree, 10)
	b, _ := new(big.Int).SetString(asked.Degree, 10)
	return a.Cmp(b) >= 0
}
