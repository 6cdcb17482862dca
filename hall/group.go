package hall

import "hallmark/api"

// group: all places of a variable: they have its least and its greatest value.
type group struct {
	ends
	x, places int
}

// takenBy tells of each number from the variable's least value on which of the
// full intervals takes it; nil: none does. They are gone through from the last
// one on, so that it is the first that stays.
func (g group) takenBy(full []interval) [api.MaxDomain]*interval {
	var by [api.MaxDomain]*interval
	for k := len(full) - 1; k >= 0; k-- {
		i := &full[k]
		if i.within.at(g.x) {
			continue
		}
		for v := max(g.from, i.from); v <= min(g.to, i.to); v++ {
			by[v-g.from] = i
		}
	}
	return by
}
