package proof

import (
	"hallmark/api"
	"hallmark/big"
)

// Words of a pol.
const (
	add      = "+"
	saturate = "s"
	times    = "*"
	divide   = "d"
	weaken   = "w"
)

func (l *line) ops(s *api.Step) {
	s.Ops = l.op(nil, l.next())
	for word, ok := l.take(); ok; word, ok = l.take() {
		s.Ops = l.op(s.Ops, word)
	}
}

// op lays what a word says to the operations of the words ahead.
func (l *line) op(ops []api.Op, word string) []api.Op {
	switch word {
	case add:
		return append(ops, api.Op{Kind: api.OpAdd})
	case saturate:
		return append(ops, api.Op{Kind: api.OpSaturate})
	case times:
		return l.turn(ops, api.OpRow, api.OpTimes)
	case divide:
		return l.turn(ops, api.OpRow, api.OpDiv)
	case weaken:
		return l.turn(ops, api.OpLit, api.OpWeaken)
	}
	return append(ops, l.operand(word))
}

// turn makes of the word directly ahead, which by itself would be an
// operation too, what the word behind it says.
func (l *line) turn(ops []api.Op, from, to int) []api.Op {
	last := len(ops) - 1
	if last < 0 || ops[last].Kind != from || ops[last].L < 0 {
		l.fail(api.ErrProofWord)
		return nil
	}
	ops[last].Kind = to
	return ops
}

func (l *line) operand(word string) api.Op {
	if lit, ok := literalOf(word); ok {
		return api.Op{Kind: api.OpLit, L: lit}
	}
	if _, e := big.Parse(word); e != api.OK {
		l.fail(api.ErrProofWord)
	}
	return api.Op{Kind: api.OpRow, N: l.id(word)}
}

func (p *page) ops(s api.Step) {
	for _, o := range s.Ops {
		p.op(o)
	}
}

func (p *page) op(o api.Op) {
	switch o.Kind {
	case api.OpRow:
		p.words(o.N)
	case api.OpLit:
		p.literals(o.L)
	case api.OpAdd:
		p.words(add)
	case api.OpTimes:
		p.words(o.N, times)
	case api.OpDiv:
		p.words(o.N, divide)
	case api.OpSaturate:
		p.words(saturate)
	case api.OpWeaken:
		p.literals(o.L).words(weaken)
	}
}
