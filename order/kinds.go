package order

import "hallmark/api"

// steps: what says [x at least k].
type steps struct{ run }

// least: of x; up to it [x at least k] is true.
func (s steps) least() int { return s.from - 1 }

func (s steps) atLeast(k int) (int, int) {
	if k <= s.least() {
		return 0, api.True
	}
	return s.number(k)
}

func (s steps) assign(set []bool, value int) {
	own := s.own(set)
	for i := range own {
		own[i] = value >= s.from+i
	}
}

// value counts, so that it is within the bounds whatever the assignment is.
func (s steps) value(set []bool) int {
	value := s.least()
	for _, is := range s.own(set) {
		if is {
			value++
		}
	}
	return value
}

// points: what says [x is v]; none, if no constraint asks for that.
type points struct{ run }

func (p points) is(v int) (int, int) {
	if p.size() == 0 {
		return 0, 0
	}
	return p.number(v)
}

func (p points) assign(set []bool, value int) {
	own := p.own(set)
	for i := range own {
		own[i] = value == p.from+i
	}
}

// picks: what says [row r of c]; none, if c is no Table.
type picks struct {
	run
	xs   []int
	rows []entry
}

// entry: a Table's row, or values of its variables; zeros behind them.
type entry [api.MaxCols]int

func (p picks) pick(r int) (int, int) {
	if n, what := p.number(r); what == api.Lit {
		return n, what
	}
	return 0, 0
}

func (p picks) assign(set []bool, values []int) {
	var here entry
	for i, x := range p.xs {
		here[i] = values[x]
	}
	own := p.own(set)
	for r := range own {
		own[r] = p.rows[r] == here
	}
}
