package dom

import (
	mb "math/bits"

	"hallmark/api"
)

// word: how many places a word of bits has.
const word = 32

// bits: a set of places, which are 0 to one less than MaxDomain. All that is
// asked of two sets at once is asked of them as arrays.
type bits [api.MaxDomain / word]uint32

// from tells all places that are k or more.
func from(k int) bits {
	var b bits
	for i := range b {
		below := min(max(k-i*word, 0), word)
		b[i] = ^uint32(0) << below
	}
	return b
}

// only tells the place k alone; none, if k is no place.
func only(k int) bits { return from(k).less(from(k + 1)) }

// and tells the places that are in both.
func (b bits) and(other bits) bits {
	for i, w := range other {
		b[i] &= w
	}
	return b
}

// or tells the places that are in one of the two.
func (b bits) or(other bits) bits {
	for i, w := range other {
		b[i] |= w
	}
	return b
}

// less tells the places that aren't in the other one.
func (b bits) less(other bits) bits {
	for i, w := range other {
		b[i] &^= w
	}
	return b
}

// at tells whether a place is in the set; a number that is no place isn't.
func (b bits) at(k int) bool {
	return k >= 0 && k < api.MaxDomain && b[k/word]>>(k%word)&1 == 1
}

func (b bits) size() int {
	n := 0
	for _, w := range b {
		n += mb.OnesCount32(w)
	}
	return n
}

// lowest tells the first place; MaxDomain, if there is none.
func (b bits) lowest() int {
	for i, w := range b {
		if w != 0 {
			return i*word + mb.TrailingZeros32(w)
		}
	}
	return api.MaxDomain
}

// highest tells the last place; -1, if there is none.
func (b bits) highest() int {
	for i := len(b) - 1; i >= 0; i-- {
		if b[i] != 0 {
			return i*word + mb.Len32(b[i]) - 1
		}
	}
	return -1
}
