package number

import "hallmark/api"

// said: a literal; or, without one, what is true always, or never.
type said struct {
	lit    int
	always bool
}

func (s said) not() said {
	if s.lit != 0 {
		return said{lit: -s.lit}
	}
	return said{always: !s.always}
}

// clause tells the literals of which one at least is true; false: one is always.
func clause(list ...said) ([]int, bool) {
	var lits []int
	for _, s := range list {
		switch {
		case s.always:
			return nil, false
		case s.lit != 0:
			lits = append(lits, s.lit)
		}
	}
	return lits, true
}

// cutKind: what a kind of cuts says of a variable: one of these is true.
type cutKind struct {
	says func(p place, v int) []said
}

// cutKinds makes the table of them, each at its number's place.
func cutKinds() [api.Not + 1]cutKind {
	return [...]cutKind{
		api.AtLeast: {func(p place, v int) []said { return []said{p.atLeast(v)} }},
		api.AtMost:  {func(p place, v int) []said { return []said{p.above(v).not()} }},
		api.Not:     {place.others},
	}
}

// others: x isn't v.
func (p place) others(v int) []said { return []said{p.atLeast(v).not(), p.above(v)} }
