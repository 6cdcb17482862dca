package encode

import "hallmark/api"

// saying: what stands for it: a literal, or a constant.
type saying struct{ lit, what int }

// not tells its negation; a constant's literal is 0.
func (s saying) not() saying {
	switch s.what {
	case api.True:
		s.what = api.False
	case api.False:
		s.what = api.True
	}
	return saying{-s.lit, s.what}
}

// least: [x at least k].
func (l *layer) least(x, k int) saying {
	n, what := l.AtLeast(x, k)
	return saying{n, what}
}

// is: [x is v], of a variable that has them.
func (l *layer) is(x, v int) saying {
	n, what := l.Is(x, v)
	return saying{n, what}
}

// row: [row r] of the Table at the place c.
func (l *layer) row(c, r int) saying {
	n, what := l.Pick(c, r)
	return saying{n, what}
}

// others tells the two sayings of which one is true just if x isn't v.
func (l *layer) others(x, v int) []saying {
	return []saying{l.least(x, v).not(), l.least(x, v+1)}
}

// literals tells the literals of a clause; false: it isn't laid, as it is true anyway.
func literals(says []saying) ([]int, bool) {
	var lits []int
	for _, s := range says {
		switch s.what {
		case api.True:
			return nil, false
		case api.Lit:
			lits = append(lits, s.lit)
		}
	}
	return lits, true
}
