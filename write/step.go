package write

import (
	"strconv"

	"hallmark/api"
)

// conclusion makes the step that claims something. What its kind hasn't, and
// is given, stands in it too, so that it has no line.
func conclusion(kind, id, low, high int) api.Step {
	s := api.Step{Kind: api.StepEnds, Ends: kind, Low: given(low), High: given(high)}
	if id != 0 {
		s.Ids = decimals([]int{id})
	}
	switch kind {
	case api.Bounds:
		s.Low, s.High = strconv.Itoa(low), strconv.Itoa(high)
	case api.All:
		s.High = strconv.Itoa(high)
	}
	return s
}

// given writes a number of which 0 says that it isn't given.
func given(n int) string {
	if n == 0 {
		return ""
	}
	return strconv.Itoa(n)
}

func decimals(list []int) []string {
	words := make([]string, len(list))
	for i, n := range list {
		words[i] = strconv.Itoa(n)
	}
	return words
}
