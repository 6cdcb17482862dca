package trim_test

import (
	"fmt"
	"slices"
	"strings"
	"testing"

	"hallmark/api"
	"hallmark/model"
	"hallmark/solve"
	"hallmark/trim"
)

// coreOf: P19.6's core by its words: each constraint, from the last one on, is
// left out, if there is no solution still. (False: there is one.)
func coreOf(m api.Model) ([]int, bool) {
	var left []int
	for c := range m.Cons {
		left = append(left, c)
	}
	if len(solutions(m)) > 0 {
		return nil, false
	}
	for c := len(m.Cons) - 1; c >= 0; c-- {
		rest := slices.DeleteFunc(slices.Clone(left), func(other int) bool { return other == c })
		if len(solutions(only(m, rest))) == 0 {
			left = rest
		}
	}
	return left, true
}

// core: what Core answers of a problem; and P19.7 of it, by going through all values.
func core(t *testing.T, m api.Model) ([]int, bool) {
	t.Helper()
	list, ok, err := trim.Core(written(t, m))
	if err != nil || !ok && len(list) > 0 || !slices.IsSorted(list) {
		t.Fatalf("P19.6: %v, %v, %v: %+v", list, ok, err, m)
	}
	if !ok {
		return list, ok
	}
	if all := solutions(only(m, list)); len(all) > 0 {
		t.Fatalf("P19.7, P22.12: %v has the solution %v: %+v", list, all[0], m)
	}
	for i := range list {
		if len(solutions(only(m, slices.Concat(list[:i], list[i+1:])))) == 0 {
			t.Fatalf("P19.7, P22.12: %v doesn't need %d: %+v", list, list[i], m)
		}
	}
	return list, ok
}

func TestCores(t *testing.T) { // P19.6, P19.7, P22.12
	s := newSource(5)
	sizes, kinds := [5]int{}, [api.Count + 1]int{}
	for range 4000 {
		m := s.problem(4, 4, 16, s.Intn(5))
		list, ok := core(t, m)
		if want, has := coreOf(m); ok != has || !slices.Equal(list, want) {
			t.Fatalf("P19.6: %v, %v, want %v, %v: %+v", list, ok, want, has, m)
		}
		if v, _, _ := solve.Solve(written(t, m), 1<<40, nil); ok != (v.Kind == api.Unsat) {
			t.Fatalf("P19.6: %v, but the solver says %+v: %+v", ok, v, m)
		}
		sizes[min(len(list), 4)]++
		for _, c := range list {
			kinds[m.Cons[c].Kind]++
		}
	}
	if slices.Min(sizes[:]) < 10 || slices.Min(kinds[api.Lin:]) < 50 {
		t.Errorf("%v, %v: too few to tell", sizes, kinds)
	}
}

func TestCoreExamples(t *testing.T) { // P19.6
	for m, want := range map[string]string{
		two: "[0] true", "var x 0 1\nlin <= 0 1 x\n": "[] false", free: "[] false", "var x 7 7\n": "[] false", three: "[0 2] true", "var x 7 7\nlin <= 6 1 x\n": "[0] true", two + "minimize 1 x\n": "[0] true",
		"var x 0 3\nlin >= 2 1 x\nlin <= 9 1 x\nlin <= 1 1 x\nlin >= 3 1 x\nminimize 1 x\n": "[0 2] true", // from the last one on
		"var x 0 3\nlin >= 3 1 x\nlin <= 9 1 x\nlin <= 1 1 x\nlin >= 2 1 x\n":               "[0 2] true",
		"var x 0 1\nlin >= 2 1 x\nlin >= 2 1 x\n":                                           "[0] true",
		"var a 1 2\nvar b 1 2\nvar c 1 2\nne a b 0\nne b c 0\nne a c 0\nalldiff a b c\n":    "[0 1 2] true",
		"var a 1 2\nvar b 1 2\nvar c 1 2\nalldiff a b c\nne a b 0\nne b c 0\nne a c 0\n":    "[0] true",
		"var x 0 1\n" + strings.Repeat("lin >= 0 1 x\n", 62) + "lin >= 1 1 x\nlin <= 0 1 x": "[62 63] true",
	} {
		list, ok, err := trim.Core(m)
		if got := fmt.Sprint(list, ok); got != want || err != nil {
			t.Errorf("P19.6: %q: %s, %v, want %s", m, got, err, want)
		}
	}
	for _, m := range []string{"", "\n", "x", "var x", "var x 0 64", two + "lin", "var x 0 1\nminimize 1 x\nminimize 1 x", "\xff"} {
		noCore(t, m)
	}
}

// TestGreatCores: at most MaxCount values in all, and one more, or some.
func TestGreatCores(t *testing.T) { // P19.6
	none := "ne x0 x0 0\nlin >= 0 1 x0\n"
	for m, want := range map[string]string{
		vars(5, 0, 9) + none: "[0] true", vars(5, 0, 9) + "var y -7 -7\n" + none: "[0] true", vars(5, 0, 9) + "var y 0 1\n" + none: "[] false", vars(3, 0, 45) + none: "[0] true", vars(3, 0, 46) + none: "[] false", vars(32, 0, 63) + none: "[] false", vars(32, 5, 5) + none: "[0] true", vars(16, 0, 1) + none: "[0] true", vars(17, 0, 1) + none: "[] false",
		vars(5, 0, 9) + "lin <= 45 1 x0 1 x1 1 x2 1 x3 1 x4\n": "[] false", vars(5, 0, 9) + "lin >= 45 1 x0 1 x1 1 x2 1 x3 1 x4\nlin <= 8 1 x4\n" + strings.Repeat("alldiff x0 x1 x2 x3 x4\n", 62): "[0 1] true",
	} {
		p, few := model.Product(read(t, m), api.MaxCount)
		list, ok, err := trim.Core(m)
		if got := fmt.Sprint(list, ok); got != want || err != nil {
			t.Errorf("P19.6: %q (%d, %v): %s, %v, want %s", m, p, few, got, err, want)
		}
	}
}

// vars: so many variables from one number to another.
func vars(n, lo, hi int) string {
	var b strings.Builder
	for x := range n {
		fmt.Fprintf(&b, "var x%d %d %d\n", x, lo, hi)
	}
	return b.String()
}
