package hall_test

import (
	"testing"

	"hallmark/api"
	"hallmark/dom"
)

func TestIntervals(t *testing.T) { // P13.1
	expect(t, "from the lo of one to the hi of another", []int{0, 1, 2}, storeOf(t, [][2]int{{1, 2}, {2, 3}, {1, 3}}), "[] true", fine)
	expect(t, "the same, and one more", []int{0, 1, 2, 3}, storeOf(t, [][2]int{{1, 2}, {2, 3}, {1, 3}, {3, 9}}),
		"[{0 {3 3 3} {1 3 [0 1 2]}}] true", fine)
	expect(t, "a number in a hole counts", []int{0, 1}, storeOf(t, [][2]int{{1, 3}, {1, 3}}, not(0, 2), not(1, 2)), "[] true", fine)
	expect(t, "so that three with two values may pass", []int{0, 1, 2}, storeOf(t, [][2]int{{1, 3}, {1, 3}, {1, 3}}, not(0, 2), not(1, 2), not(2, 2)), "[] true", fine)
	expect(t, "and four can't", []int{0, 1, 2, 3}, storeOf(t, repeat(4, [2]int{1, 3}), not(0, 2), not(1, 2), not(2, 2), not(3, 2)), bad, "{1 3 [0 1 2 3]} true")
	expect(t, "bounds as cuts have left them", []int{0, 1, 2}, storeOf(t, [][2]int{{0, 5}, {0, 5}, {0, 5}},
		api.Cut{Kind: api.AtLeast, X: 0, V: 2}, api.Cut{Kind: api.AtMost, X: 0, V: 3}, api.Cut{Kind: api.AtLeast, X: 1, V: 2}, api.Cut{Kind: api.AtMost, X: 1, V: 3}),
		"[{0 {3 2 2} {2 3 [0 1]}} {0 {3 2 3} {2 3 [0 1]}}] true", fine)
	expect(t, "only one end in it isn't within", []int{0, 1}, storeOf(t, [][2]int{{1, 1}, {1, 2}}), "[{0 {3 1 1} {1 1 [0]}}] true", fine)
	expect(t, "nor is the other one", []int{0, 1}, storeOf(t, [][2]int{{2, 2}, {1, 2}}), "[{0 {3 1 2} {2 2 [0]}}] true", fine)
	expect(t, "below 0", []int{0, 1, 2}, storeOf(t, [][2]int{{-1, 0}, {-1, 0}, {-3, 1}}), "[{0 {3 2 -1} {-1 0 [0 1]}} {0 {3 2 0} {-1 0 [0 1]}}] true", fine)
}

func TestTheOrderOfPlaces(t *testing.T) { // P13.1
	d := example(t)
	expect(t, "turned round", []int{3, 2, 1, 0}, d, "[{0 {3 2 1} {1 2 [1 0]}} {0 {3 2 2} {1 2 [1 0]}} {0 {3 2 4} {4 4 [3]}}] true", fine)
	expect(t, "twice, apart", []int{1, 0, 3, 1}, d, bad, "{1 2 [1 0 1]} true")
	expect(t, "twice, side by side", []int{0, 1, 1, 0}, d, bad, "{1 2 [0 1 1 0]} true")
	wide := storeOf(t, [][2]int{{0, 3}, {0, 1}, {2, 3}, {0, 9}})
	expect(t, "three within, one of them twice", []int{2, 0, 3, 1, 0}, wide, "[{0 {3 3 0} {0 3 [2 0 1 0]}} {0 {3 3 1} {0 3 [2 0 1 0]}} {0 {3 3 2} {0 3 [2 0 1 0]}} {0 {3 3 3} {0 3 [2 0 1 0]}}] true", fine)
}

func TestTheFirstOverfull(t *testing.T) { // P13.2
	d := storeOf(t, [][2]int{{5, 5}, {5, 5}, {1, 2}, {1, 2}, {1, 2}, {1, 9}, {0, 9}})
	expect(t, "the lesser From", []int{0, 1, 2, 3, 4}, d, bad, "{1 2 [2 3 4]} true")
	expect(t, "the other one by itself", []int{0, 1, 2, 3}, d, bad, "{5 5 [0 1]} true")
	// By From, then by To: 1 to 5 (five within) ahead of 5 to 5.
	expect(t, "a wider one may begin ahead", []int{0, 1, 2, 3, 5, 6}, storeOf(t, [][2]int{{5, 5}, {5, 5}, {1, 2}, {1, 2}, {1, 9}, {1, 4}, {1, 5}}), bad, "{1 5 [0 1 2 3 5 6]} true")
	expect(t, "of one From the lesser To", []int{0, 1, 2, 3}, storeOf(t, [][2]int{{1, 1}, {1, 2}, {1, 1}, {1, 2}}), bad, "{1 1 [0 2]} true")
	expect(t, "full isn't overfull", []int{2, 3, 0}, d, "[] true", fine)
	expect(t, "one less", []int{2, 0}, d, "[] true", fine)
}

func TestTheFirstFull(t *testing.T) { // P13.3
	d := storeOf(t, [][2]int{{1, 1}, {2, 2}, {3, 3}, {0, 9}, {2, 9}})
	expect(t, "by From, then by To", []int{0, 1, 2, 3}, d, "[{0 {3 3 1} {1 1 [0]}} {0 {3 3 2} {1 2 [0 1]}} {0 {3 3 3} {1 3 [0 1 2]}}] true", fine)
	expect(t, "from the first one on", []int{4, 2, 1}, d, "[{0 {3 4 2} {2 2 [1]}} {0 {3 4 3} {2 3 [2 1]}}] true", fine)
	// 0 to 3 is full and has y within, 2 to 3 is full and hasn't.
	inner := storeOf(t, [][2]int{{2, 3}, {2, 3}, {0, 3}, {0, 2}})
	expect(t, "the first one within which it isn't", []int{0, 1, 2, 3}, inner, "[{0 {3 2 2} {2 3 [0 1]}} {0 {3 2 3} {2 3 [0 1]}} {0 {3 3 2} {2 3 [0 1]}}] true", fine)
}

func TestWhatGoes(t *testing.T) { // P13.3
	hole := storeOf(t, [][2]int{{1, 2}, {1, 2}, {0, 5}, {0, 5}}, not(2, 1))
	expect(t, "a value that isn't there doesn't go", []int{0, 1, 2}, hole, "[{0 {3 2 2} {1 2 [0 1]}}] true", fine)
	expect(t, "of a variable without a place nothing goes", []int{0, 1}, hole, "[] true", fine)
	expect(t, "of each of two, rising, whatever the places' order", []int{3, 1, 2, 0}, hole, "[{0 {3 2 2} {1 2 [1 0]}} {0 {3 3 1} {1 2 [1 0]}} {0 {3 3 2} {1 2 [1 0]}}] true", fine)
	expect(t, "once, of a variable with two places", []int{2, 0, 2, 1}, hole, "[{0 {3 2 2} {1 2 [0 1]}}] true", fine)
	ends := storeOf(t, [][2]int{{1, 5}, {1, 1}, {5, 5}}, not(0, 2), not(0, 3), not(0, 4))
	expect(t, "all of its values", []int{0, 1, 2}, ends, "[{0 {3 0 1} {1 1 [1]}} {0 {3 0 5} {5 5 [2]}}] true", fine)
	expect(t, "two places fill an interval of two", []int{0, 0, 1}, storeOf(t, [][2]int{{1, 2}, {0, 2}}), "[{0 {3 1 1} {1 2 [0 0]}} {0 {3 1 2} {1 2 [0 0]}}] true", fine)
}

func TestNoVariables(t *testing.T) { // P13.1
	d := example(t)
	expect(t, "no places", nil, d, "[] true", fine)
	expect(t, "no places", []int{}, d, "[] true", fine)
	expect(t, "no variables alone", none(d), d, "[] true", fine)
	expect(t, "no variables, twice", append(none(d), none(d)...), d, "[] true", fine)
	for _, x := range none(d) {
		expect(t, "among variables", []int{x, 0, x, 1, 2, x, x, 3, x}, d, all4, fine)
		expect(t, "among too many", []int{0, x, 1, x, 0}, d, bad, "{1 2 [0 1 0]} true")
	}
	empty := dom.New(api.Model{})
	for _, xs := range [][]int{nil, {0}, {0, 0}, {-1, 0, 1}, none(empty)} {
		expect(t, "a store without variables", xs, empty, "[] true", fine)
	}
	full := storeOf(t, repeat(api.MaxVars, [2]int{0, 0}))
	expect(t, "the last variable, and one past it", []int{api.MaxVars, api.MaxVars - 1, api.MaxVars}, full, "[] true", fine)
	expect(t, "the last variable, twice", []int{api.MaxVars - 1, api.MaxVars - 1}, full, bad, "{0 0 [31 31]} true")
}

func TestByChance(t *testing.T) { // P13.1 to P13.3
	s := newSource(1)
	var failed, several, took, whole, still int
	for range 20000 {
		d := s.store(t, 8, 8)
		xs := s.places(d)
		l, h, ok := agrees(t, xs, d)
		switch {
		case !ok:
			failed++
			if len(h.Xs) > 2 {
				several++
			}
		case len(l) > 0:
			took++
			if goesWhole(l, d) {
				whole++
			}
		default:
			still++
		}
	}
	if min(failed, several, took, still) < 1000 || whole < 5 {
		t.Errorf("%d fail (%d of more than two places), %d take something (%d all of a variable's values), %d nothing: too few to tell", failed, several, took, whole, still)
	}
}

// goesWhole tells whether all values of a variable go.
func goesWhole(l []api.Cause, d *dom.Store) bool {
	gone := map[int]int{}
	for _, c := range l {
		gone[c.Cut.X]++
	}
	for x, n := range gone {
		if n == d.Size(x) {
			return true
		}
	}
	return false
}
