package solve

// denials: pseudo-Boolean variables that have a row that they are false.
type denials struct {
	list []int
	has  []bool // of each number
}

func newDenials(count int) denials { return denials{has: make([]bool, count+1)} }

// add notes a variable; false: it was noted.
func (d *denials) add(n int) bool {
	if d.has[n] {
		return false
	}
	d.has[n] = true
	d.list = append(d.list, n)
	return true
}

// keep forgets all but the first ones, so many.
func (d *denials) keep(many int) {
	for _, n := range d.list[many:] {
		d.has[n] = false
	}
	d.list = d.list[:many]
}
