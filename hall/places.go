package hall

import (
	"slices"

	"hallmark/api"
	"hallmark/dom"
)

// places: the variables that stand at them, in the order of the places, and
// each variable once, rising.
type places struct {
	xs     []int
	groups []group
}

// placesOf passes over what is no variable.
func placesOf(xs []int, d *dom.Store) places {
	var p places
	var many [api.MaxVars]int
	for _, x := range xs {
		if x >= 0 && x < d.Vars() {
			p.xs = append(p.xs, x)
			many[x]++
		}
	}
	for x, n := range many {
		if n > 0 {
			p.groups = append(p.groups, group{ends{d.Lo(x), d.Hi(x)}, x, n})
		}
	}
	return p
}

// starts tells where intervals begin, rising.
func (p places) starts() []int {
	var out []int
	for _, g := range p.groups {
		out = append(out, g.from)
	}
	slices.Sort(out)
	return slices.Compact(out)
}

// crowded tells the crowded intervals in their order, but for those that
// crowdedFrom leaves out.
func (p places) crowded() []interval {
	byEnd := slices.Clone(p.groups)
	slices.SortFunc(byEnd, func(a, b group) int { return a.to - b.to })
	var out []interval
	for _, from := range p.starts() {
		out = append(out, crowdedFrom(from, byEnd)...)
	}
	return out
}

// hall tells an interval, each time in new memory.
func (p places) hall(i interval) api.Hall {
	h := api.Hall{From: i.from, To: i.to, Xs: make([]int, 0, i.places)}
	for _, x := range p.xs {
		if i.within.at(x) {
			h.Xs = append(h.Xs, x)
		}
	}
	return h
}

// cuts tells which of the values of a group's variable go, and why.
func (p places) cuts(g group, values []int, full []interval) []api.Cause {
	by := g.takenBy(full)
	var out []api.Cause
	for _, v := range values {
		if i := by[v-g.from]; i != nil {
			out = append(out, api.Cause{Cut: api.Cut{Kind: api.Not, X: g.x, V: v}, Hall: p.hall(*i)})
		}
	}
	return out
}
