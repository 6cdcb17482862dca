package dom

import "hallmark/api"

// domain: a variable's values: the place k of its bits stands for first + k.
// Which number is the first one never changes, so that places stay what they
// are whatever is cut.
type domain struct {
	first int
	has   bits
}

// whole makes the domain of a variable that has lost nothing yet.
func whole(v api.Var) domain {
	return domain{v.Lo, from(0).less(from(v.Hi - v.Lo + 1))}
}

// place tells where a number stands; one that is below all places is at -1,
// one that is above them at MaxDomain, however far away it is.
func (d domain) place(v int) int {
	return min(max(v, d.first-1), d.first+api.MaxDomain) - d.first
}

func (d domain) lo() int { return d.first + d.has.lowest() }

func (d domain) hi() int { return d.first + d.has.highest() }

func (d domain) holds(v int) bool { return d.has.at(d.place(v)) }

func (d domain) values() []int {
	out := make([]int, 0, d.has.size())
	for v := d.lo(); v <= d.hi(); v++ {
		if d.holds(v) {
			out = append(out, v)
		}
	}
	return out
}

// left tells what a cut leaves; a kind that is none leaves everything.
func (d domain) left(c api.Cut) bits {
	at := d.place(c.V)
	switch c.Kind {
	case api.AtLeast:
		return d.has.and(from(at))
	case api.AtMost:
		return d.has.less(from(at + 1))
	case api.Not:
		return d.has.less(only(at))
	}
	return d.has
}

// packed tells the places that the values have, if they are counted from the
// least of them.
func (d domain) packed() bits {
	var b bits
	for _, v := range d.values() {
		b = b.or(only(v - d.lo()))
	}
	return b
}

// same tells whether two have the same values, whichever number either of them
// counts from.
func (d domain) same(other domain) bool {
	return d.lo() == other.lo() && d.packed() == other.packed()
}
