// Package big: whole numbers of any size: see doc/01-big.md.
package big

import (
	"cmp"
	"math"
	"math/bits"

	"hallmark/api"
)

// Int: a whole number; the zero value is 0.
//
// Nearly all coefficients and degrees are ints, and cost no more than these;
// only the others have limbs. A number has just one of both forms.
type Int struct {
	small int   // the number, if wide is nil
	wide  *wide // a number that is no int
}

// wide: a sign and limbs; never changed once an Int has it, so that copies of
// an Int may share it.
type wide struct {
	negative bool
	limbs    []uint32
}

// Of tells n.
func Of(n int) Int { return Int{small: n} }

// Small tells it as an int; false: it is none.
func (a Int) Small() (int, bool) {
	if a.wide != nil {
		return 0, false
	}
	return a.small, true
}

// Sign tells -1, 0 or 1.
func (a Int) Sign() int {
	switch {
	case a.negative():
		return -1
	case a.wide != nil || a.small > 0:
		return 1
	}
	return 0
}

// Cmp tells -1, 0 or 1.
func (a Int) Cmp(b Int) int {
	if a.wide == nil && b.wide == nil {
		return cmp.Compare(a.small, b.small)
	}
	if a.negative() != b.negative() {
		if a.negative() {
			return -1
		}
		return 1
	}
	order := compareLimbs(a.limbs(), b.limbs())
	if a.negative() {
		return -order
	}
	return order
}

// Neg tells the opposite.
func (a Int) Neg() Int {
	if a.wide == nil && a.small != math.MinInt {
		return Of(-a.small)
	}
	return settled(!a.negative(), a.limbs())
}

// Add tells the sum.
func (a Int) Add(b Int) Int {
	if a.wide == nil && b.wide == nil {
		if sum := a.small + b.small; (sum > a.small) == (b.small > 0) {
			return Of(sum)
		}
	}
	x, y := a.limbs(), b.limbs()
	switch {
	case a.negative() == b.negative():
		return settled(a.negative(), addLimbs(x, y))
	case compareLimbs(x, y) < 0:
		return settled(b.negative(), subLimbs(y, x))
	}
	return settled(a.negative(), subLimbs(x, y))
}

// Sub tells the difference.
func (a Int) Sub(b Int) Int { return a.Add(b.Neg()) }

// Mul tells the product.
func (a Int) Mul(b Int) Int {
	negative := a.negative() != b.negative()
	if a.wide == nil && b.wide == nil {
		if hi, lo := bits.Mul64(size(a.small), size(b.small)); hi == 0 {
			return settledSmall(negative, lo)
		}
	}
	return settled(negative, mulLimbs(a.limbs(), b.limbs()))
}

// DivUp tells the quotient, rounded up.
func (a Int) DivUp(b Int) (Int, api.Errno) {
	if b.Sign() < 1 {
		return Int{}, api.ErrBigZero
	}
	if a.wide == nil && b.wide == nil {
		return Of(divUpSmall(a.small, b.small)), api.OK
	}
	limbs, exact := divLimbs(a.limbs(), b.limbs())
	quotient := settled(a.negative(), limbs)
	if exact || a.negative() { // what is cut off a negative quotient rounds it up
		return quotient, api.OK
	}
	return quotient.Add(Of(1)), api.OK
}

func divUpSmall(a, b int) int {
	if a > 0 && a%b > 0 {
		return a/b + 1
	}
	return a / b
}

func (a Int) negative() bool {
	if a.wide != nil {
		return a.wide.negative
	}
	return a.small < 0
}

func (a Int) limbs() []uint32 {
	if a.wide != nil {
		return a.wide.limbs
	}
	return limbsOf(size(a.small))
}

// size tells n without its sign; the least int's size is no int.
func size(n int) uint64 {
	if n < 0 {
		return -uint64(n)
	}
	return uint64(n)
}

// settled brings a sign and limbs to the one form that the number has.
func settled(negative bool, limbs []uint32) Int {
	if n, ok := smallSize(limbs); ok {
		return settledSmall(negative, n)
	}
	return Int{wide: &wide{negative, limbs}}
}

func settledSmall(negative bool, size uint64) Int {
	switch {
	case negative && size <= -math.MinInt:
		return Of(int(-size))
	case !negative && size <= math.MaxInt:
		return Of(int(size))
	}
	return Int{wide: &wide{negative, limbsOf(size)}}
}
