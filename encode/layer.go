package encode

import (
	"slices"

	"hallmark/api"
	"hallmark/order"
	"hallmark/pb"
)

// layer: what lays rows; it embeds the order, whose numbers they are made of.
type layer struct {
	*order.Order
	m     api.Model
	kinds [api.Count + 1]kind
	put   func(row func() pb.Row) // who only counts rows never asks how one looks
}

// newLayer: of a right problem; put is handed each row that is laid.
func newLayer(m api.Model, put func(row func() pb.Row)) (*layer, api.Errno) {
	o, e := order.New(m)
	if e != api.OK {
		return nil, e
	}
	return &layer{o, m, allKinds(), put}, api.OK
}

// clause lays the clause of some sayings.
func (l *layer) clause(says ...saying) {
	if lits, laid := literals(says); laid {
		l.put(func() pb.Row { return clauseOf(lits) })
	}
}

func clauseOf(lits []int) pb.Row {
	row, _ := pb.Clause(lits) // it refuses none of an order's numbers
	return row.Saturate()
}

// compare lays the rows of a sum that is at most, equal to, at least k.
func (l *layer) compare(s sum, op, k int) {
	if op != api.Ge {
		l.atMost(s, k)
	}
	if op != api.Le {
		l.atLeast(s, k)
	}
}

// variables lays the rows that are no constraint's.
func (l *layer) variables() {
	for x, v := range l.m.Vars {
		for k := v.Lo + 2; k <= v.Hi; k++ {
			l.clause(l.least(x, k).not(), l.least(x, k-1))
		}
	}
	for x, v := range l.m.Vars {
		if _, what := l.Is(x, v.Lo); what != api.Lit {
			continue
		}
		for k := v.Lo; k <= v.Hi; k++ {
			l.clause(l.is(x, k).not(), l.least(x, k))
			l.clause(l.is(x, k).not(), l.least(x, k+1).not())
			l.clause(l.least(x, k).not(), l.least(x, k+1), l.is(x, k))
		}
	}
}

// constraint lays the rows of the constraint at a place.
func (l *layer) constraint(at int) {
	c := l.m.Cons[at]
	l.kinds[c.Kind].lay(l, c, at)
}

// unlike lays the clause that the values are others. Of a value beyond the
// bounds one of both sayings is true, whatever is one above it.
func (l *layer) unlike(values []int) {
	var says []saying
	for x, v := range values {
		says = append(says, l.others(x, v)...)
	}
	l.clause(says...)
}

// within tells the values within the bounds of one of the variables, rising.
func (l *layer) within(xs []int) []int {
	return slices.Compact(l.everywhere(xs))
}

// shared tells the values within the bounds of the variables at two or more
// places, rising.
func (l *layer) shared(xs []int) []int {
	var twice []int
	all := l.everywhere(xs)
	for i, v := range all {
		if i > 0 && v == all[i-1] {
			twice = append(twice, v)
		}
	}
	return slices.Compact(twice)
}

// everywhere tells the values of the variables, of each place all of them, rising.
func (l *layer) everywhere(xs []int) []int {
	var all []int
	for _, x := range xs {
		for v := l.m.Vars[x].Lo; v <= l.m.Vars[x].Hi; v++ {
			all = append(all, v)
		}
	}
	slices.Sort(all)
	return all
}
