package base

import (
	"hallmark/api"
	"hallmark/big"
	"hallmark/pb"
)

// Pol tells the row that operations make.
func (b *Base) Pol(ops []api.Op) (pb.Row, api.Errno) {
	var stack []pb.Row
	for _, op := range ops {
		wants, ok := wanted(op.Kind)
		if !ok || wants > len(stack) {
			return pb.Row{}, api.ErrBaseStack
		}
		rest := len(stack) - wants
		r, e := b.made(op, stack[rest:])
		if e != api.OK {
			return pb.Row{}, e
		}
		stack = append(stack[:rest], r)
	}
	if len(stack) != 1 {
		return pb.Row{}, api.ErrBaseStack
	}
	return stack[0], api.OK
}

// wanted tells how many rows a kind of operation takes from the stack; false: it is no kind.
func wanted(kind int) (int, bool) {
	switch kind {
	case api.OpRow, api.OpLit:
		return 0, true
	case api.OpTimes, api.OpDiv, api.OpSaturate, api.OpWeaken:
		return 1, true
	case api.OpAdd:
		return 2, true
	}
	return 0, false
}

// made tells the row that an operation makes of those that it takes.
func (b *Base) made(op api.Op, of []pb.Row) (pb.Row, api.Errno) {
	switch op.Kind {
	case api.OpRow:
		return b.Row(op.N)
	case api.OpLit:
		return pb.Lit(op.L)
	case api.OpAdd:
		return of[0].Add(of[1]), api.OK
	case api.OpTimes:
		return byNumber(of[0].Times, op.N)
	case api.OpDiv:
		return byNumber(of[0].Div, op.N)
	case api.OpSaturate:
		return of[0].Saturate(), api.OK
	}
	return weakened(of[0], op.L)
}

// byNumber hands a rule its number.
func byNumber(rule func(big.Int) (pb.Row, api.Errno), number string) (pb.Row, api.Errno) {
	n, e := big.Parse(number)
	if e != api.OK {
		return pb.Row{}, api.ErrPbNumber
	}
	return rule(n)
}

// weakened refuses what is no variable; pb.Row.Weaken takes it for one that the row hasn't.
func weakened(r pb.Row, v int) (pb.Row, api.Errno) {
	if v < 1 || v > api.MaxLit {
		return pb.Row{}, api.ErrPbLit
	}
	return r.Weaken(v), api.OK
}
