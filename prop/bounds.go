package prop

import "math"

// bounds: all numbers from one on, up to another one. Neither is below
// -math.MaxInt, so that signs can be turned.
type bounds struct{ from, to int }

func anything() bounds { return bounds{-math.MaxInt, math.MaxInt} }

func from(v int) bounds { return bounds{v, math.MaxInt} }

func upTo(v int) bounds { return bounds{-math.MaxInt, v} }

func just(v int) bounds { return bounds{v, v} }

func (b bounds) within(v int) bool { return b.from <= v && v <= b.to }

// meet tells what is in both.
func (b bounds) meet(other bounds) bounds {
	return bounds{max(b.from, other.from), min(b.to, other.to)}
}

// greater tells in which the greater one of two numbers is, one of each.
func (b bounds) greater(other bounds) bounds {
	return bounds{max(b.from, other.from), max(b.to, other.to)}
}

// turned tells the numbers with their signs turned.
func (b bounds) turned() bounds { return bounds{-b.to, -b.from} }
