package number

// place: a variable's: its bounds, and where its numbers begin. The zero one is
// no variable's, as numbers begin with 1.
type place [4]int

const (
	lo = iota
	hi
	steps  // the first number that says [x at least k], or would, if there were one
	points // the first number that says [x is v]; 0, if there is none
)

func (p place) size() int { return p[hi] - p[lo] + 1 }

func (p place) has(v int) bool { return v >= p[lo] && v <= p[hi] }

// atLeast: [x at least k].
func (p place) atLeast(k int) said {
	if k > p[lo] && k <= p[hi] {
		return said{lit: p[steps] + k - p[lo] - 1}
	}
	return said{always: k <= p[lo]}
}

// above: [x at least v + 1], of a v, too, that has none above it.
func (p place) above(v int) said {
	if v >= p[lo] && v < p[hi] {
		return said{lit: p[steps] + v - p[lo]}
	}
	return said{always: v < p[lo]}
}

// is: the number of [x is v]; 0, if there is none.
func (p place) is(v int) int {
	if p[points] == 0 || !p.has(v) {
		return 0
	}
	return p[points] + v - p[lo]
}

// tell makes those literals true that say what a value of the variable is.
func (p place) tell(lits []int, value int) {
	for k := p[lo] + 1; k <= value; k++ {
		affirm(lits, p.atLeast(k).lit)
	}
	if p[points] > 0 {
		affirm(lits, p.is(value))
	}
}

func affirm(lits []int, number int) { lits[number-1] = number }
