package number

import (
	"slices"

	"hallmark/api"
)

// differs: of an AllDiff, the values that have a row, rising, and the id of
// the first one's; of another constraint nothing.
type differs struct {
	first  int
	values []int
}

// kind: how many rows a kind of constraints lays.
type kind struct {
	rows func(n *Number, c api.Con) int
}

// allKinds makes the table of kinds, each at its number's place.
func allKinds() [api.Count + 1]kind {
	return [...]kind{
		api.Lin:     {compared},
		api.Ne:      {neRows},
		api.AllDiff: {func(n *Number, c api.Con) int { return len(n.shared(c.Xs)) }},
		api.Element: {elementRows},
		api.Max:     {maxRows},
		api.Min:     {minRows},
		api.Reif:    {reifRows},
		api.Table:   {tableRows},
		api.Count:   {compared},
	}
}

func (n *Number) countRows(cons []api.Con) {
	for _, p := range n.vars {
		n.rows += max(p.size()-2, 0)
		if p[points] > 0 {
			n.rows += 3*p.size() - 2 // at each bound one of three is true anyway
		}
	}
	kinds := allKinds()
	n.differents = make([]differs, len(cons))
	for c, con := range cons {
		if con.Kind == api.AllDiff {
			n.differents[c] = differs{n.rows + 1, n.shared(con.Xs)}
		}
		n.rows += kinds[con.Kind].rows(n, con)
	}
}

// laid: 1, if a clause has a row; 0, if what it says beside literals is true anyway.
func laid(s said) int {
	if s.always {
		return 0
	}
	return 1
}

// compared: a sum's; equal is at most and at least.
func compared(_ *Number, c api.Con) int {
	if c.Op == api.Eq {
		return 2
	}
	return 1
}

func neRows(n *Number, c api.Con) int {
	x, y := n.vars[c.X], n.vars[c.Y]
	return max(min(x[hi], y[hi]+c.K)-max(x[lo], y[lo]+c.K)+1, 0)
}

func elementRows(n *Number, c api.Con) int {
	x, y := n.vars[c.X], n.vars[c.Y]
	rows := laid(x.atLeast(0)) + laid(x.atLeast(len(c.Table)).not())
	for v, t := range c.Table {
		if x.has(v) { // then neither is true always of x that says: x isn't v
			rows += laid(y.atLeast(t)) + laid(y.above(t).not())
		}
	}
	return rows
}

// maxRows: [Y at least k] is true anyway up to Y's least value, not [x at least
// k] above x's greatest one: the numbers between them have a clause of both. So
// it is with the last clause, whose x is the one with the greatest least value.
func maxRows(n *Number, c api.Con) int {
	y, ks := n.vars[c.Y], n.ofOne(append([]int{c.Y}, c.Xs...))
	rows, least := 0, -api.MaxValue
	for _, x := range c.Xs {
		rows += between(ks, y[lo], n.vars[x][hi])
		least = max(least, n.vars[x][lo])
	}
	return rows + between(ks, least, y[hi])
}

// minRows: a Min is a Max of what is turned round.
func minRows(n *Number, c api.Con) int {
	y, ks := n.vars[c.Y], n.ofOne(append([]int{c.Y}, c.Xs...))
	rows, most := 0, api.MaxValue
	for _, x := range c.Xs {
		rows += between(ks, n.vars[x][lo], y[hi])
		most = min(most, n.vars[x][hi])
	}
	return rows + between(ks, y[lo], most)
}

// between counts, of a rising list, those above one number, up to another one.
func between(list []int, above, upTo int) int {
	from, _ := slices.BinarySearch(list, above+1)
	to, _ := slices.BinarySearch(list, upTo+1)
	return max(to-from, 0)
}

func reifRows(n *Number, c api.Con) int {
	x := n.vars[c.X]
	return laid(x.atLeast(0)) + laid(x.atLeast(2).not()) + 2
}

func tableRows(n *Number, c api.Con) int {
	rows := 1
	for _, row := range c.Rows {
		for i, x := range c.Xs {
			rows += laid(n.vars[x].atLeast(row[i])) + laid(n.vars[x].above(row[i]).not())
		}
	}
	return rows
}

// ofOne tells the values within the bounds of one of the variables, rising.
func (n *Number) ofOne(xs []int) []int {
	return slices.Compact(n.everywhere(xs))
}

// shared tells the values within the bounds of the variables at two or more
// places, rising.
func (n *Number) shared(xs []int) []int {
	var twice []int
	all := n.everywhere(xs)
	for i, v := range all {
		if i > 0 && v == all[i-1] {
			twice = append(twice, v)
		}
	}
	return slices.Compact(twice)
}

// everywhere tells the values of the variables, of each place all of them, rising.
func (n *Number) everywhere(xs []int) []int {
	var all []int
	for _, x := range xs {
		for v := n.vars[x][lo]; v <= n.vars[x][hi]; v++ {
			all = append(all, v)
		}
	}
	slices.Sort(all)
	return all
}
