package write_test

import (
	"fmt"
	"math/rand"
	"strings"

	"hallmark/api"
)

// source: calls by chance, the same in every run; of each some part is wrong now and then.
type source struct {
	*rand.Rand
	faults bool
}

func newSource(faults bool) source { return source{rand.New(rand.NewSource(16)), faults} }

func (s source) odd() bool { return s.faults && s.Intn(25) == 0 }

func some[T any](n int, one func() T) []T {
	var list []T
	for range n {
		list = append(list, one())
	}
	return list
}

func (s source) id() int {
	if s.odd() {
		return far()[s.Intn(len(far()))]
	}
	return 1 + s.Intn(40)
}

func (s source) lit() int {
	if s.odd() {
		return far()[s.Intn(len(far()))]
	}
	return (1 + s.Intn(30)) * (1 - 2*s.Intn(2))
}

func (s source) digits() string {
	if s.odd() {
		return []string{"", "0", "-1", "-0", "01", "x1", "1 ", "1 x1 2", "\n", "1\n*", "1 ; 2", "3 *"}[s.Intn(12)]
	}
	if s.Intn(8) == 0 {
		return fmt.Sprint(1+s.Intn(9)) + strings.Repeat(fmt.Sprint(s.Intn(10)), s.Intn(40))
	}
	return fmt.Sprint(1 + s.Intn(20))
}

func (s source) number() string {
	switch s.Intn(4) {
	case 0:
		return "0"
	case 1:
		return "-" + s.digits()
	}
	return s.digits()
}

func (s source) row() api.Row {
	return api.Row{Pieces: some(s.Intn(4), func() api.Piece { return api.Piece{C: s.number(), L: s.lit()} }), Degree: s.number()}
}

func (s source) op() api.Op {
	o := api.Op{Kind: 1 + s.Intn(api.OpWeaken)}
	switch o.Kind {
	case api.OpRow, api.OpTimes, api.OpDiv:
		o.N = s.digits()
	case api.OpLit, api.OpWeaken:
		o.L = s.lit()
	}
	if o.Kind == api.OpWeaken {
		o.L = max(o.L, -o.L)
	}
	if s.odd() {
		o.Kind = s.Intn(10) - 1
	}
	return o
}

// step: a call of any kind but the end.
func (s source) step() call {
	switch s.Intn(7) {
	case 0:
		return rup(s.row(), some(max(0, s.Intn(6)-2), s.id)...)
	case 1:
		return pol(some(s.Intn(20)/3, s.op)...)
	case 2:
		return soli(some(s.Intn(4), s.lit)...)
	case 3:
		return solx(some(s.Intn(4), s.lit)...)
	case 4:
		return same(s.id(), s.row())
	case 5:
		return del(some(s.Intn(9)/2, s.id)...)
	}
	return note()
}

// end: one that mostly has what its kind has.
func (s source) end() call {
	c := end([]int{api.None, api.Unsat, api.Sat, api.Bounds, api.All}[s.Intn(5)], 0, 0, 0)
	switch c.kind {
	case api.Unsat:
		c.id = s.Intn(3)
	case api.Bounds:
		c.id, c.low, c.high = s.Intn(3), s.Intn(9)-4, s.Intn(9)-4
	case api.All:
		c.id, c.high = 1+s.Intn(9), s.Intn(9)
	}
	if s.faults && s.Intn(2) == 0 {
		n := far()[s.Intn(len(far()))]
		switch s.Intn(4) {
		case 0:
			c.kind = s.Intn(9) - 1
		case 1:
			c.id = n
		case 2:
			c.low = n
		case 3:
			c.high = n
		}
	}
	return c
}
