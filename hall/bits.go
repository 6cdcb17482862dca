package hall

import "hallmark/api"

// word: how many variables a word of bits tells of.
const word = 8

// bits: which of the places lie within an interval. All places of a variable do
// or none does, so that one bit tells of them, however many they are.
type bits [api.MaxVars / word]uint8

// with tells the places that were there, and those of x.
func (b bits) with(x int) bits {
	b[x/word] |= 1 << (x % word)
	return b
}

func (b bits) at(x int) bool { return b[x/word]>>(x%word)&1 == 1 }
