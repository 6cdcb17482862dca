package encode_test

import (
	"math/big"
	"slices"
	"strconv"

	"hallmark/api"
)

// line: a number, and numbers times 0/1 variables. The rows are told here by
// lines that are at least 0; constants are lines without variables.
type line struct {
	number *big.Int
	of     map[int]*big.Int
}

func number(n int) line { return line{big.NewInt(int64(n)), map[int]*big.Int{}} }

// plus: the line and c times another one.
func (a line) plus(c int, b line) line {
	by := big.NewInt(int64(c))
	sum := line{new(big.Int).Add(a.number, new(big.Int).Mul(by, b.number)), map[int]*big.Int{}}
	for n, k := range a.of {
		sum.of[n] = k
	}
	for n, k := range b.of {
		had := sum.of[n]
		if had == nil {
			had = new(big.Int)
		}
		sum.of[n] = new(big.Int).Add(had, new(big.Int).Mul(by, k))
	}
	return sum
}

func not(a line) line { return number(1).plus(-1, a) }

// row: the line is at least 0, in the one form.
func (a line) row() api.Row {
	var names []int
	for n, k := range a.of {
		if k.Sign() != 0 {
			names = append(names, n)
		}
	}
	slices.Sort(names)
	degree := new(big.Int).Neg(a.number)
	row := api.Row{}
	for _, n := range names {
		k, lit := a.of[n], n
		if k.Sign() < 0 {
			degree.Sub(degree, k)
			lit = -n
		}
		row.Pieces = append(row.Pieces, api.Piece{C: new(big.Int).Abs(k).String(), L: lit})
	}
	if degree.Sign() < 0 {
		degree.SetInt64(0)
	}
	row.Degree = degree.String()
	return row
}

// book: the rows of a problem as the chapter's words have them.
type book struct {
	m      api.Model
	number map[api.Mean]int
	rows   []api.Row
	owners []int
	alone  map[[2]int]int // of a constraint's place and a value
}

func newBook(m api.Model) *book {
	b := &book{m: m, number: map[api.Mean]int{}, alone: map[[2]int]int{}}
	b.name()
	b.layVars()
	for c := range m.Cons {
		b.layCon(c)
	}
	return b
}

// name gives the numbers by DOC.md, "The rows of a problem".
func (b *book) name() {
	next := func(what api.Mean) { b.number[what] = len(b.number) + 1 }
	for x, v := range b.m.Vars {
		for k := v.Lo + 1; k <= v.Hi; k++ {
			next(api.Mean{X: x, V: k})
		}
	}
	for x, v := range b.m.Vars {
		for k := v.Lo; k <= v.Hi && b.stands(x); k++ {
			next(api.Mean{X: x, V: k, Is: true})
		}
	}
	for c, con := range b.m.Cons {
		for r := range con.Rows {
			next(api.Mean{Con: c, Row: r, Pick: true})
		}
	}
}

// stands: in an AllDiff or a Count.
func (b *book) stands(x int) bool {
	for _, c := range b.m.Cons {
		if (c.Kind == api.AllDiff || c.Kind == api.Count) && slices.Contains(c.Xs, x) {
			return true
		}
	}
	return false
}

// has: v is within the bounds of x.
func (b *book) has(x, v int) bool { return b.m.Vars[x].Lo <= v && v <= b.m.Vars[x].Hi }

func (b *book) say(what api.Mean) line {
	return line{new(big.Int), map[int]*big.Int{b.number[what]: big.NewInt(1)}}
}

func (b *book) ge(x, k int) line {
	switch {
	case k <= b.m.Vars[x].Lo:
		return number(1)
	case k > b.m.Vars[x].Hi:
		return number(0)
	}
	return b.say(api.Mean{X: x, V: k})
}

func (b *book) is(x, v int) line {
	if !b.has(x, v) {
		return number(0)
	}
	return b.say(api.Mean{X: x, V: v, Is: true})
}

// value: that of x as a line.
func (b *book) value(x int) line {
	v := b.m.Vars[x]
	sum := number(v.Lo)
	for k := v.Lo + 1; k <= v.Hi; k++ {
		sum.of[b.number[api.Mean{X: x, V: k}]] = big.NewInt(1)
	}
	return sum
}

func (b *book) sum(terms []api.Term) line {
	all := number(0)
	for _, t := range terms {
		all = all.plus(t.C, b.value(t.X))
	}
	return all
}

func (b *book) lay(owner int, row api.Row) {
	b.rows, b.owners = append(b.rows, row), append(b.owners, owner)
}

// clause: not laid, if one is the constant 1; else their sum is at least 1,
// no coefficient above the degree, which is 0 or 1.
func (b *book) clause(owner int, list ...line) {
	if row, laid := clause(list); laid {
		b.lay(owner, row)
	}
}

func clause(list []line) (api.Row, bool) {
	sum := number(-1)
	for _, a := range list {
		if len(a.of) == 0 && a.number.Sign() > 0 {
			return api.Row{}, false
		}
		sum = sum.plus(1, a)
	}
	row := sum.row()
	if row.Degree == "0" {
		return api.Row{Degree: "0"}, true
	}
	for i := range row.Pieces {
		row.Pieces[i].C = "1"
	}
	return row, true
}

func (b *book) layVars() {
	for x, v := range b.m.Vars {
		for k := v.Lo + 2; k <= v.Hi; k++ {
			b.clause(-1, not(b.ge(x, k)), b.ge(x, k-1))
		}
	}
	for x := range b.m.Vars {
		for v := b.m.Vars[x].Lo; v <= b.m.Vars[x].Hi && b.stands(x); v++ {
			b.clause(-1, not(b.is(x, v)), b.ge(x, v))
			b.clause(-1, not(b.is(x, v)), not(b.ge(x, v+1)))
			b.clause(-1, not(b.ge(x, v)), b.ge(x, v+1), b.is(x, v))
		}
	}
}

// op lays the rows of a line that is at most, equal to, at least k.
func (b *book) op(owner int, a line, op, k int) {
	if op == api.Le || op == api.Eq {
		b.lay(owner, number(k).plus(-1, a).row())
	}
	if op == api.Ge || op == api.Eq {
		b.lay(owner, a.plus(-1, number(k)).row())
	}
}

// values: of all places, rising, none twice.
func (b *book) values(xs ...int) []int {
	at := map[int]bool{}
	for _, x := range xs {
		for v := b.m.Vars[x].Lo; v <= b.m.Vars[x].Hi; v++ {
			at[v] = true
		}
	}
	var list []int
	for v := range at {
		list = append(list, v)
	}
	slices.Sort(list)
	return list
}

func (b *book) layCon(at int) {
	switch c := b.m.Cons[at]; c.Kind {
	case api.Lin:
		b.op(at, b.sum(c.Terms), c.Op, c.K)
	case api.Ne:
		for v := b.m.Vars[c.X].Lo; v <= b.m.Vars[c.X].Hi; v++ {
			if w := v - c.K; b.has(c.Y, w) {
				b.clause(at, not(b.ge(c.X, v)), b.ge(c.X, v+1), not(b.ge(c.Y, w)), b.ge(c.Y, w+1))
			}
		}
	case api.AllDiff:
		b.layAllDiff(at, c)
	case api.Element:
		b.clause(at, b.ge(c.X, 0))
		b.clause(at, not(b.ge(c.X, len(c.Table))))
		for v, t := range c.Table {
			if b.has(c.X, v) {
				b.clause(at, not(b.ge(c.X, v)), b.ge(c.X, v+1), b.ge(c.Y, t))
				b.clause(at, not(b.ge(c.X, v)), b.ge(c.X, v+1), not(b.ge(c.Y, t+1)))
			}
		}
	case api.Max, api.Min:
		b.layMost(at, c)
	case api.Reif:
		b.layReif(at, c)
	case api.Table:
		b.layTable(at, c)
	case api.Count:
		all := number(0)
		for _, x := range c.Xs {
			all = all.plus(1, b.is(x, c.V))
		}
		b.op(at, all, c.Op, c.K)
	}
}

func (b *book) layAllDiff(at int, c api.Con) {
	for _, v := range b.values(c.Xs...) {
		all, places := number(0), 0
		for _, x := range c.Xs {
			if b.has(x, v) {
				all, places = all.plus(1, not(b.is(x, v))), places+1
			}
		}
		if places > 1 {
			b.lay(at, all.plus(-1, number(places-1)).row())
			b.alone[[2]int{at, v}] = len(b.rows)
		}
	}
}

// layMost: a Min is a Max of what is turned round.
func (b *book) layMost(at int, c api.Con) {
	turn := func(a line) line { return a }
	if c.Kind == api.Min {
		turn = not
	}
	for _, k := range b.values(append([]int{c.Y}, c.Xs...)...) {
		y := turn(b.ge(c.Y, k))
		last := []line{not(y)}
		for _, x := range c.Xs {
			b.clause(at, not(turn(b.ge(x, k))), y)
			last = append(last, turn(b.ge(x, k)))
		}
		b.clause(at, last...)
	}
}

func (b *book) layReif(at int, c api.Con) {
	b.clause(at, b.ge(c.X, 0))
	b.clause(at, not(b.ge(c.X, 2)))
	least, greatest := 0, 0
	for _, t := range c.Terms {
		ends := []int{t.C * b.m.Vars[t.X].Lo, t.C * b.m.Vars[t.X].Hi}
		least, greatest = least+slices.Min(ends), greatest+slices.Max(ends)
	}
	m, n := greatest-c.K, c.K+1-least
	if m < 0 {
		m = 0
	}
	if n < 0 {
		n = 0
	}
	b.op(at, b.sum(c.Terms).plus(m, b.ge(c.X, 1)), api.Le, c.K+m)
	b.op(at, b.sum(c.Terms).plus(n, b.ge(c.X, 1)), api.Ge, c.K+1)
}

func (b *book) layTable(at int, c api.Con) {
	var picks []line
	for r := range c.Rows {
		picks = append(picks, b.say(api.Mean{Con: at, Row: r, Pick: true}))
	}
	b.clause(at, picks...)
	for r, row := range c.Rows {
		for i, v := range row {
			b.clause(at, not(picks[r]), b.ge(c.Xs[i], v))
			b.clause(at, not(picks[r]), not(b.ge(c.Xs[i], v+1)))
		}
	}
}

// goal: its pieces and its offset.
func (b *book) goal() ([]api.Piece, string) {
	if !b.m.HasGoal {
		return nil, ""
	}
	var pieces []api.Piece
	offset := 0
	for _, t := range b.m.Goal {
		offset += t.C * b.m.Vars[t.X].Lo
		for k := b.m.Vars[t.X].Lo + 1; k <= b.m.Vars[t.X].Hi; k++ {
			pieces = append(pieces, api.Piece{C: strconv.Itoa(t.C), L: b.number[api.Mean{X: t.X, V: k}]})
		}
	}
	return pieces, strconv.Itoa(offset)
}

// unlike: of values within the bounds.
func (b *book) unlike(values []int) api.Row {
	var list []line
	for x, v := range values {
		list = append(list, not(b.ge(x, v)), b.ge(x, v+1))
	}
	row, _ := clause(list)
	return row
}
