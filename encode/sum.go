package encode

import (
	"hallmark/api"
	"hallmark/big"
	"hallmark/pb"
)

// sum: of numbers times literals, and of a number.
type sum struct {
	parts  []part
	number int
}

// part: a number times a literal.
type part struct{ c, lit int }

// add adds c times a saying.
func (s *sum) add(c int, said saying) {
	switch said.what {
	case api.True:
		s.number += c
	case api.Lit:
		s.parts = append(s.parts, part{c, said.lit})
	}
}

// sum: of terms.
func (l *layer) sum(terms []api.Term) sum {
	var s sum
	for _, t := range terms {
		v := l.m.Vars[t.X]
		s.number += t.C * v.Lo
		for k := v.Lo + 1; k <= v.Hi; k++ {
			s.add(t.C, l.least(t.X, k))
		}
	}
	return s
}

// ends tells the least and the greatest value of a sum, each term by itself.
func (l *layer) ends(terms []api.Term) (least, greatest int) {
	for _, t := range terms {
		a, b := t.C*l.m.Vars[t.X].Lo, t.C*l.m.Vars[t.X].Hi
		least += min(a, b)
		greatest += max(a, b)
	}
	return least, greatest
}

func (l *layer) atMost(s sum, k int) {
	l.put(func() pb.Row { return s.atMost(big.Of(k)) })
}

func (l *layer) atLeast(s sum, k int) {
	l.put(func() pb.Row { return s.atLeast(big.Of(k)) })
}

func (s sum) atMost(k big.Int) pb.Row { return s.turned().atLeast(k.Neg()) }

func (s sum) atLeast(k big.Int) pb.Row {
	degree := k.Sub(big.Of(s.number))
	row, _ := pb.Of(api.Row{Pieces: s.plain(), Degree: degree.Text()}) // it refuses none of an order's numbers
	return row
}

// turned tells the sum with all signs turned.
func (s sum) turned() sum {
	turned := sum{number: -s.number}
	for _, p := range s.parts {
		turned.parts = append(turned.parts, part{-p.c, p.lit})
	}
	return turned
}

func (s sum) plain() []api.Piece {
	pieces := make([]api.Piece, len(s.parts))
	for i, p := range s.parts {
		pieces[i] = api.Piece{C: big.Of(p.c).Text(), L: p.lit}
	}
	return pieces
}
