package big

import (
	"cmp"
	"math/bits"
	"slices"
)

// A size is kept as limbs, the least one first, the last one above 0; 0 has
// none. A limb holds decimal digits, because numbers come and go as decimal
// texts: so reading and writing one is going through it once.
const (
	limbDigits = 9
	limbBase   = 1_000_000_000
)

// tally: limbs that are being written, and what the last one carries to the next.
type tally struct {
	limbs []uint32
	carry uint64
}

// tell writes the next limb of a sum, hi times 2^64 and lo, with the carry.
// (hi stays far below limbBase: a column of products has too few of them.)
func (t *tally) tell(hi, lo uint64) {
	lo, more := bits.Add64(lo, t.carry, 0)
	carry, limb := bits.Div64(hi+more, lo, limbBase)
	t.limbs, t.carry = append(t.limbs, uint32(limb)), carry
}

// finish writes the carry that is left, and hands out the limbs.
func (t *tally) finish(limbs *[]uint32) {
	for t.carry > 0 {
		t.tell(0, 0)
	}
	*limbs = trimmed(t.limbs)
}

// tallied answers the limbs of the sums that write tells, the least one first.
// The last carry is put off: it is there only when write has told all it has.
func tallied(room int, write func(tell func(hi, lo uint64))) (limbs []uint32) {
	t := tally{limbs: make([]uint32, 0, room)}
	finish := t.finish
	defer finish(&limbs)
	write(t.tell)
	return nil
}

func trimmed(limbs []uint32) []uint32 {
	n := len(limbs)
	for n > 0 && limbs[n-1] == 0 {
		n--
	}
	return limbs[:n]
}

func limbsOf(n uint64) []uint32 {
	return tallied(3, func(tell func(hi, lo uint64)) { tell(0, n) })
}

// smallSize tells the size that limbs write, if it is below 10^19.
func smallSize(limbs []uint32) (uint64, bool) {
	if len(limbs) > 3 || len(limbs) == 3 && limbs[2] > 9 {
		return 0, false
	}
	n := uint64(0)
	for _, limb := range slices.Backward(limbs) {
		n = n*limbBase + uint64(limb)
	}
	return n, true
}

// limbAt tells the limb at a place; there is a 0 at every place behind the last.
func limbAt(limbs []uint32, place int) uint64 {
	if place < len(limbs) {
		return uint64(limbs[place])
	}
	return 0
}

func compareLimbs(a, b []uint32) int {
	if len(a) != len(b) {
		return cmp.Compare(len(a), len(b))
	}
	for i, limb := range slices.Backward(a) {
		if limb != b[i] {
			return cmp.Compare(limb, b[i])
		}
	}
	return 0
}

func addLimbs(a, b []uint32) []uint32 {
	n := max(len(a), len(b))
	return tallied(n+1, func(tell func(hi, lo uint64)) {
		for i := range n {
			tell(0, limbAt(a, i)+limbAt(b, i))
		}
	})
}

// subLimbs answers a less b, which isn't above a.
func subLimbs(a, b []uint32) []uint32 {
	limbs := slices.Clone(a)
	takeTimes(limbs, b, 1)
	return trimmed(limbs)
}

// takeTimes takes b, so many times (at most limbBase), off limbs, in place. It
// tells whether that was too much: then a limb behind the last still owes 1.
func takeTimes(limbs, b []uint32, times uint64) bool {
	owed := uint64(0)
	for i, limb := range limbs {
		owed += limbAt(b, i) * times
		off := uint32(owed % limbBase)
		owed /= limbBase
		if limb < off {
			limb += limbBase
			owed++
		}
		limbs[i] = limb - off
	}
	return owed > 0
}

func mulLimbs(a, b []uint32) []uint32 {
	n := len(a) + len(b)
	return tallied(n, func(tell func(hi, lo uint64)) {
		for place := range n {
			tell(column(a, b, place))
		}
	})
}

// column answers the sum of all products of a limb of a and one of b that fall
// to a place: telling it at once divides once a limb, and not once a product.
func column(a, b []uint32, place int) (hi, lo uint64) {
	for i := max(0, place-len(b)+1); i < min(place+1, len(a)); i++ {
		sum, more := bits.Add64(lo, uint64(a[i])*uint64(b[place-i]), 0)
		hi, lo = hi+more, sum
	}
	return hi, lo
}

func scaleLimbs(a []uint32, by uint64) []uint32 {
	return tallied(len(a)+1, func(tell func(hi, lo uint64)) {
		for _, limb := range a {
			tell(0, uint64(limb)*by)
		}
	})
}
