package prop

import "hallmark/api"

// side: what is left, as it is, or with the signs of all values turned, so that
// what is told of Le and of Max is told of Ge and of Min too.
type side struct {
	*left
	isTurned bool
}

func (l *left) upright() side { return side{l, false} }

func (l *left) turned() side { return side{l, true} }

// span tells a variable's least and greatest value.
func (s side) span(x int) bounds {
	b := bounds{s.Lo(x), s.Hi(x)}
	if s.isTurned {
		return b.turned()
	}
	return b
}

func (s side) keep(x int, b bounds) {
	if s.isTurned {
		b = b.turned()
	}
	s.left.keep(x, b)
}

// beyond: more than any sum may be, and so little that a sum less this one
// doesn't wrap round.
const beyond = 2 * api.MaxTerms * api.MaxCoef * api.MaxValue

// atMost leaves what lets a sum be at most k (at least k, where signs are
// turned), which is any number; false: nothing does.
func (s side) atMost(coefs []int, k int) bool {
	k = min(max(k, -beyond), beyond)
	if s.isTurned {
		k = -k
	}
	spare := k - s.least(coefs)
	if spare < 0 {
		return false
	}
	for x, c := range coefs {
		switch has := s.span(x); {
		case c > 0:
			s.keep(x, upTo(has.from+spare/c))
		case c < 0:
			s.keep(x, from(has.to-spare/-c))
		}
	}
	return true
}

// least tells a sum's least value.
func (s side) least(coefs []int) int {
	sum := 0
	for x, c := range coefs {
		has := s.span(x)
		sum += min(c*has.from, c*has.to)
	}
	return sum
}

// greatest leaves what lets y be the greatest of xs; false: nothing does.
func (s side) greatest(y int, xs []int) bool {
	has, can := s.span(y), s.span(xs[0])
	for _, x := range xs {
		can = can.greater(s.span(x))
	}
	if can.to < has.from || can.from > has.to {
		return false
	}
	s.keep(y, can)
	for _, x := range xs {
		s.keep(x, upTo(has.to))
		if !s.anotherReaches(x, xs, has.from) {
			s.keep(x, from(has.from))
		}
	}
	return true
}

// anotherReaches tells whether a variable of xs that isn't x may be v or more.
func (s side) anotherReaches(x int, xs []int, v int) bool {
	for _, other := range xs {
		if other != x && s.span(other).to >= v {
			return true
		}
	}
	return false
}
