package order

import "hallmark/api"

// run: numbers that follow one another as what they tell does: the first one
// tells from, the last one to. Every kind of numbers is of this make.
type run struct {
	ahead    int // how many numbers are ahead of the first one
	from, to int // from is one above to, if there is no number
}

func (r run) size() int { return r.to - r.from + 1 }

// number tells what stands for v: a number, or the constant false.
func (r run) number(v int) (int, int) {
	if v < r.from || v > r.to {
		return 0, api.False
	}
	return r.ahead + v - r.from + 1, api.Lit
}

// told tells what number n tells; false: it is none of these.
func (r run) told(n int) (int, bool) {
	if n <= r.ahead || n > r.ahead+r.size() {
		return 0, false
	}
	return r.from + n - r.ahead - 1, true
}

// own: what an assignment says of these numbers.
func (r run) own(set []bool) []bool {
	return set[r.ahead : r.ahead+r.size()]
}
