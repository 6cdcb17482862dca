package script

import (
	"slices"

	"hallmark/api"
)

// told tells a line: a word, and numbers.
func told(word string, numbers ...int) string {
	p := &page{}
	return p.words(word).numbers(numbers...).line.String()
}

// verdict tells a verdict's line.
func verdict(v api.Verdict) string {
	switch v.Kind {
	case api.Unsat:
		return told("unsat")
	case api.Sat:
		return told("sat", v.Values...)
	case api.Best:
		return told("best", slices.Concat([]int{v.Worth}, v.Values)...)
	case api.Bounds:
		return told("bounds", slices.Concat([]int{v.Low, v.Worth}, v.Values)...)
	case api.All:
		return told("all", v.Count)
	}
	return told("none")
}

func equal(a, b api.Verdict) bool {
	return a.Kind == b.Kind && a.Low == b.Low && a.Worth == b.Worth && a.Count == b.Count &&
		slices.Equal(a.Values, b.Values)
}
