package pb

import (
	"cmp"
	"slices"

	"hallmark/api"
	"hallmark/big"
)

// Add tells the sum.
func (r Row) Add(s Row) Row {
	return formed(merged(r.pieces, s.pieces), r.degree.Add(s.degree))
}

// Times tells it n times.
func (r Row) Times(n big.Int) (Row, api.Errno) {
	if n.Sign() < 1 {
		return Row{}, api.ErrPbFactor
	}
	return r.each(n.Mul), api.OK
}

// Div tells it divided by n, rounded up.
func (r Row) Div(n big.Int) (Row, api.Errno) {
	if n.Sign() < 1 {
		return Row{}, api.ErrPbFactor
	}
	divided := func(a big.Int) big.Int {
		q, _ := a.DivUp(n) // it refuses no n above 0
		return q
	}
	return r.each(divided), api.OK
}

// Saturate tells it without coefficients above its degree.
func (r Row) Saturate() Row {
	if r.degree.Sign() == 0 {
		return Row{}
	}
	capped := func(a big.Int) big.Int {
		if a.Cmp(r.degree) > 0 {
			return r.degree
		}
		return a
	}
	return r.each(capped)
}

// Weaken tells it without a variable.
func (r Row) Weaken(v int) Row {
	at, there := slices.BinarySearchFunc(r.pieces, v, func(p piece, v int) int { return cmp.Compare(variable(p.lit), v) })
	if !there {
		return r
	}
	rest := slices.Concat(r.pieces[:at], r.pieces[at+1:])
	return Row{rest, notBelowZero(r.degree.Sub(r.pieces[at].coef))}
}

// Negate tells the row that it doesn't hold.
func (r Row) Negate() Row {
	pieces := make([]piece, len(r.pieces))
	for i, p := range r.pieces {
		pieces[i] = piece{p.coef, -p.lit}
	}
	return Row{pieces, notBelowZero(r.Total().Sub(r.degree).Add(big.Of(1)))}
}

// each tells the row whose coefficients and degree are what change makes of
// this one's; it must make numbers above 0 of such, and 0 of 0.
func (r Row) each(change func(big.Int) big.Int) Row {
	pieces := make([]piece, len(r.pieces))
	for i, p := range r.pieces {
		pieces[i] = piece{change(p.coef), p.lit}
	}
	return Row{pieces, change(r.degree)}
}
