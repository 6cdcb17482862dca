package pb

import (
	"cmp"
	"slices"

	"hallmark/big"
)

// sorted brings pieces into the order of their variables.
func sorted(pieces []piece) []piece {
	slices.SortFunc(pieces, byVariable)
	return pieces
}

// merged tells the pieces of two rows in the order of their variables.
func merged(a, b []piece) []piece {
	all := make([]piece, 0, len(a)+len(b))
	for len(a) > 0 && len(b) > 0 {
		if byVariable(a[0], b[0]) <= 0 {
			all, a = append(all, a[0]), a[1:]
		} else {
			all, b = append(all, b[0]), b[1:]
		}
	}
	return append(append(all, a...), b...)
}

func byVariable(p, q piece) int { return cmp.Compare(variable(p.lit), variable(q.lit)) }

// formed brings pieces in the order of their variables, their coefficients of
// any sign, and a degree of any sign, to the one form.
func formed(pieces []piece, degree big.Int) Row {
	kept := make([]piece, 0, len(pieces))
	var sure big.Int
	for len(pieces) > 0 {
		end := 1
		for end < len(pieces) && byVariable(pieces[0], pieces[end]) == 0 {
			end++
		}
		one, always := together(pieces[:end])
		if one.coef.Sign() > 0 {
			kept = append(kept, one)
		}
		sure = sure.Add(always)
		pieces = pieces[end:]
	}
	return Row{kept, notBelowZero(degree.Sub(sure))}
}

// together makes one piece of all pieces of a variable. Of its two literals
// just one is true: what the lesser side has comes always, and only what the
// greater one has above it hangs on the assignment. (This goes for negative
// coefficients too: turned round ahead, they would add the same to both sides
// and to the degree.)
func together(pieces []piece) (one piece, always big.Int) {
	v := variable(pieces[0].lit)
	var plus, minus big.Int
	for _, p := range pieces {
		if p.lit > 0 {
			plus = plus.Add(p.coef)
		} else {
			minus = minus.Add(p.coef)
		}
	}
	if plus.Cmp(minus) < 0 {
		return piece{minus.Sub(plus), -v}, plus
	}
	return piece{plus.Sub(minus), v}, minus
}

func notBelowZero(n big.Int) big.Int {
	if n.Sign() < 0 {
		return big.Int{}
	}
	return n
}
