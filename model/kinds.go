package model

import (
	"slices"

	"hallmark/api"
)

// kind: what a kind of constraints asks for.
type kind struct {
	own   func(c api.Con) plain // c's plain fields without those that the kind hasn't
	op    bool                  // Op must be one
	most  lengths               // 0: the kind hasn't that list
	holds func(c api.Con, values []int) bool
}

// plain: the fields of a constraint that are no lists.
type plain struct{ kind, op, k, v, x, y int }

// lengths: how long a constraint's lists are.
type lengths [4]int

const (
	ofTerms = iota
	ofXs
	ofTable
	ofRows
)

// kindOf tells what a kind asks for; false: there is none.
func kindOf(number int) (kind, bool) {
	if number < api.Lin || number > api.Count {
		return kind{}, false
	}
	return allKinds()[number], true
}

// allKinds makes the table of kinds, each at its number's place.
func allKinds() [api.Count + 1]kind {
	const most = api.MaxTerms
	y := func(c api.Con) plain { return plain{kind: c.Kind, y: c.Y} }
	none := func(c api.Con) plain { return plain{kind: c.Kind} }
	return [...]kind{
		api.Lin: {op: true, most: lengths{ofTerms: most}, holds: linHolds,
			own: func(c api.Con) plain { return plain{kind: c.Kind, op: c.Op, k: c.K} }},
		api.Ne: {holds: neHolds,
			own: func(c api.Con) plain { return plain{kind: c.Kind, k: c.K, x: c.X, y: c.Y} }},
		api.AllDiff: {own: none, most: lengths{ofXs: most}, holds: allDiffHolds},
		api.Element: {most: lengths{ofTable: most}, holds: elementHolds,
			own: func(c api.Con) plain { return plain{kind: c.Kind, x: c.X, y: c.Y} }},
		api.Max: {own: y, most: lengths{ofXs: most}, holds: maxHolds},
		api.Min: {own: y, most: lengths{ofXs: most}, holds: minHolds},
		api.Reif: {most: lengths{ofTerms: most}, holds: reifHolds,
			own: func(c api.Con) plain { return plain{kind: c.Kind, k: c.K, x: c.X} }},
		api.Table: {own: none, most: lengths{ofXs: api.MaxCols, ofRows: most}, holds: tableHolds},
		api.Count: {op: true, most: lengths{ofXs: most}, holds: countHolds,
			own: func(c api.Con) plain { return plain{kind: c.Kind, op: c.Op, k: c.K, v: c.V} }},
	}
}

func plainOf(c api.Con) plain {
	return plain{kind: c.Kind, op: c.Op, k: c.K, v: c.V, x: c.X, y: c.Y}
}

func lengthsOf(c api.Con) lengths {
	return lengths{ofTerms: len(c.Terms), ofXs: len(c.Xs), ofTable: len(c.Table), ofRows: len(c.Rows)}
}

func linHolds(c api.Con, values []int) bool {
	return compare(sum(c.Terms, values), c.Op, c.K)
}

func neHolds(c api.Con, values []int) bool {
	return values[c.X] != values[c.Y]+c.K
}

func allDiffHolds(c api.Con, values []int) bool {
	for i, x := range c.Xs {
		for _, y := range c.Xs[:i] {
			if values[x] == values[y] {
				return false
			}
		}
	}
	return true
}

func elementHolds(c api.Con, values []int) bool {
	at := values[c.X]
	return at >= 0 && at < len(c.Table) && values[c.Y] == c.Table[at]
}

func maxHolds(c api.Con, values []int) bool {
	greatest := values[c.Xs[0]]
	for _, x := range c.Xs {
		greatest = max(greatest, values[x])
	}
	return values[c.Y] == greatest
}

func minHolds(c api.Con, values []int) bool {
	least := values[c.Xs[0]]
	for _, x := range c.Xs {
		least = min(least, values[x])
	}
	return values[c.Y] == least
}

func reifHolds(c api.Con, values []int) bool {
	if sum(c.Terms, values) <= c.K {
		return values[c.X] == 1
	}
	return values[c.X] == 0
}

func tableHolds(c api.Con, values []int) bool {
	return slices.ContainsFunc(c.Rows, func(row []int) bool {
		for i, x := range c.Xs {
			if values[x] != row[i] {
				return false
			}
		}
		return true
	})
}

func countHolds(c api.Con, values []int) bool {
	n := 0
	for _, x := range c.Xs {
		if values[x] == c.V {
			n++
		}
	}
	return compare(n, c.Op, c.K)
}

func compare(a, op, b int) bool {
	switch op {
	case api.Le:
		return a <= b
	case api.Eq:
		return a == b
	default:
		return a >= b
	}
}
