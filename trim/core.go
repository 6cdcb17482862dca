package trim

import (
	"hallmark/api"
	"hallmark/model"
	"hallmark/text"
)

// Core tells constraints that have no solution together, and of which none can be left out.
func Core(m string) ([]int, bool, error) {
	parsed, err := text.Parse(m)
	if err != nil {
		return nil, false, err
	}
	if _, few := model.Product(parsed, api.MaxCount); !few {
		return nil, false, nil
	}
	all, solved := breaches(parsed)
	if solved {
		return nil, false, nil
	}
	var left breach
	for c := range parsed.Cons {
		left[c] = true
	}
	for c := len(parsed.Cons) - 1; c >= 0; c-- {
		left[c] = false
		left[c] = !left.meetsEach(all)
	}
	return left.places(), true, nil
}

// breach: which constraints don't hold of some values. If none is among them,
// the values are a solution.
type breach [api.MaxCons]bool

// breaches goes through all values of a right problem, and tells what breaches
// there are; or none, and true, if it has a solution.
func breaches(m api.Model) (map[breach]struct{}, bool) {
	all := map[breach]struct{}{}
	values := make([]int, len(m.Vars))
	for x, v := range m.Vars {
		values[x] = v.Lo
	}
	for more := true; more; more = advance(m.Vars, values) {
		var b breach
		for i, c := range m.Cons {
			b[i] = !model.Holds(c, values)
		}
		if b == (breach{}) {
			return nil, true
		}
		all[b] = struct{}{}
	}
	return all, false
}

// advance makes the next values of some values; false: they were the last ones.
func advance(vars []api.Var, values []int) bool {
	for x, v := range vars {
		if values[x] < v.Hi {
			values[x]++
			return true
		}
		values[x] = v.Lo
	}
	return false
}

// meetsEach tells whether each of some breaches has one of these constraints:
// then they have no solution together.
func (b breach) meetsEach(all map[breach]struct{}) bool {
	for other := range all {
		if !b.meets(other) {
			return false
		}
	}
	return true
}

func (b breach) meets(other breach) bool {
	for c, is := range b {
		if is && other[c] {
			return true
		}
	}
	return false
}

// places tells those of the constraints, rising.
func (b breach) places() []int {
	var list []int
	for c, is := range b {
		if is {
			list = append(list, c)
		}
	}
	return list
}
