package prop

import (
	"slices"

	"hallmark/api"
)

// rule: what a kind of constraints leaves of the variables; false: it fails.
type rule struct {
	leave func(l *left, c api.Con) bool
}

// allRules makes the table of rules, each at its kind's place.
func allRules() [api.Count + 1]rule {
	return [...]rule{
		api.Lin:     {leaveLin},
		api.Ne:      {leaveNe},
		api.AllDiff: {leaveAllDiff},
		api.Element: {leaveElement},
		api.Max:     {leaveMax},
		api.Min:     {leaveMin},
		api.Reif:    {leaveReif},
		api.Table:   {leaveTable},
		api.Count:   {leaveCount},
	}
}

// leaveAllDiff leaves everything: what goes by it another layer tells.
func leaveAllDiff(*left, api.Con) bool { return true }

func leaveLin(l *left, c api.Con) bool {
	coefs := l.coefs(c.Terms)
	if c.Op != api.Ge && !l.upright().atMost(coefs, c.K) {
		return false
	}
	return c.Op == api.Le || l.turned().atMost(coefs, c.K)
}

// coefs tells each variable's coefficient, as the terms of one may be many.
func (l *left) coefs(terms []api.Term) []int {
	out := make([]int, l.Vars())
	for _, t := range terms {
		out[t.X] += t.C
	}
	return out
}

func leaveNe(l *left, c api.Con) bool {
	if c.X == c.Y {
		return c.K != 0
	}
	if y, ok := l.one(c.Y); ok {
		l.keepSome(c.X, func(v int) bool { return v != y+c.K })
	}
	if x, ok := l.one(c.X); ok {
		l.keepSome(c.Y, func(v int) bool { return v != x-c.K })
	}
	return true
}

func leaveElement(l *left, c api.Con) bool {
	l.keepSome(c.X, func(v int) bool {
		return v >= 0 && v < len(c.Table) && l.Has(c.Y, c.Table[v])
	})
	l.keepSome(c.Y, func(v int) bool {
		for place, number := range c.Table {
			if number == v && l.Has(c.X, place) {
				return true
			}
		}
		return false
	})
	return true
}

func leaveMax(l *left, c api.Con) bool { return l.upright().greatest(c.Y, c.Xs) }

func leaveMin(l *left, c api.Con) bool { return l.turned().greatest(c.Y, c.Xs) }

func leaveReif(l *left, c api.Con) bool {
	if !l.Has(c.X, 0) && !l.Has(c.X, 1) {
		return false
	}
	coefs := l.coefs(c.Terms)
	l.keep(c.X, bounds{0, 1})
	if greatest := -l.turned().least(coefs); greatest <= c.K {
		l.keep(c.X, just(1))
	}
	if l.upright().least(coefs) > c.K {
		l.keep(c.X, just(0))
	}
	switch says, ok := l.one(c.X); {
	case !ok:
		return true
	case says == 1:
		return l.upright().atMost(coefs, c.K)
	}
	return l.turned().atMost(coefs, c.K+1)
}

func leaveTable(l *left, c api.Con) bool {
	var alive [][]int
	for _, row := range c.Rows {
		if l.isAlive(row, c.Xs) {
			alive = append(alive, row)
		}
	}
	for place, x := range c.Xs {
		l.keepSome(x, func(v int) bool {
			return slices.ContainsFunc(alive, func(row []int) bool { return row[place] == v })
		})
	}
	return len(alive) > 0
}

func (l *left) isAlive(row, xs []int) bool {
	for place, x := range xs {
		if !l.Has(x, row[place]) {
			return false
		}
	}
	return true
}

func leaveCount(l *left, c api.Con) bool {
	places := make([]int, l.Vars())
	for _, x := range c.Xs {
		places[x]++
	}
	sure, may := 0, 0
	for x, n := range places {
		if l.Has(x, c.V) {
			may += n
			if l.Size(x) == 1 {
				sure += n
			}
		}
	}
	atMost, atLeast := c.Op != api.Ge, c.Op != api.Le
	if atMost && sure > c.K || atLeast && may < c.K {
		return false
	}
	for x, n := range places {
		if n == 0 || !l.Has(x, c.V) {
			continue
		}
		if atMost && l.Size(x) > 1 && sure+n > c.K {
			l.keepSome(x, func(v int) bool { return v != c.V })
		}
		if atLeast && may-n < c.K {
			l.keep(x, just(c.V))
		}
	}
	return true
}
