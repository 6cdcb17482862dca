package number_test

import (
	"slices"

	"hallmark/api"
)

// listed goes by DOC.md, "The rows of a problem": what each number says, in their order.
func listed(m api.Model) []api.Mean {
	var list []api.Mean
	for x, v := range m.Vars {
		for k := v.Lo + 1; k <= v.Hi; k++ {
			list = append(list, api.Mean{X: x, V: k})
		}
	}
	for x, v := range m.Vars {
		for k := v.Lo; k <= v.Hi && stands(m, x); k++ {
			list = append(list, api.Mean{X: x, V: k, Is: true})
		}
	}
	for c, con := range m.Cons {
		for r := range con.Rows {
			list = append(list, api.Mean{Con: c, Row: r, Pick: true})
		}
	}
	return list
}

// stands: in an AllDiff or a Count.
func stands(m api.Model, x int) bool {
	return slices.ContainsFunc(m.Cons, func(c api.Con) bool {
		return (c.Kind == api.AllDiff || c.Kind == api.Count) && slices.Contains(c.Xs, x)
	})
}

// holds tells whether what is said is true of values.
func holds(m api.Model, what api.Mean, values []int) bool {
	switch {
	case what.Pick:
		c := m.Cons[what.Con]
		for i, x := range c.Xs {
			if c.Rows[what.Row][i] != values[x] {
				return false
			}
		}
		return true
	case what.Is:
		return values[what.X] == what.V
	}
	return values[what.X] >= what.V
}

// constant: what a literal of Fact can be beside a number.
const (
	never  = 0
	always = 1 << 40
)

// step: [x at least k + add], without that sum: a literal, never or always.
func step(m api.Model, x, k, add int) int {
	v := m.Vars[x]
	if k > v.Hi-add {
		return never
	}
	if k <= v.Lo-add {
		return always
	}
	return 1 + slices.Index(listed(m), api.Mean{X: x, V: k + add})
}

func not(lit int) int {
	switch lit {
	case never:
		return always
	case always:
		return never
	}
	return -lit
}

// fact goes by P15.3's words.
func fact(m api.Model, c api.Cut) ([]int, bool) {
	if c.X < 0 || c.X >= len(m.Vars) {
		return nil, false
	}
	var says []int
	switch c.Kind {
	case api.AtLeast:
		says = []int{step(m, c.X, c.V, 0)}
	case api.AtMost:
		says = []int{not(step(m, c.X, c.V, 1))}
	case api.Not:
		says = []int{not(step(m, c.X, c.V, 0)), step(m, c.X, c.V, 1)}
	default:
		return nil, false
	}
	if slices.Contains(says, always) {
		return nil, false
	}
	return slices.DeleteFunc(says, func(lit int) bool { return lit == never }), true
}
