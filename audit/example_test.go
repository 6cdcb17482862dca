package audit_test

import (
	"errors"
	"fmt"
	"testing"

	"hallmark/api"
	"hallmark/audit"
)

// pair: the chapter's first example.
func pair() api.Model {
	return with(sized(3, 3), api.Con{Kind: api.AllDiff, Xs: []int{0, 1}})
}

func ExampleSolutions() {
	for values := range audit.Solutions(pair()) {
		fmt.Println(values)
	}
	// Output:
	// [0 1]
	// [0 2]
	// [1 0]
	// [1 2]
	// [2 0]
	// [2 1]
}

func ExampleCount() {
	fmt.Println(audit.Count(pair()))
	fmt.Println(audit.Count(sized(64, 64, 64))) // too many to be counted
	// Output:
	// 6 true
	// 0 false
}

func ExampleAnswer() {
	v, ok := audit.Answer(pair())
	fmt.Println(v.Kind == api.Sat, v.Values, ok)
	v, ok = audit.Answer(withGoal(pair(), -1))
	fmt.Println(v.Kind == api.Best, v.Worth, v.Values, ok)
	v, ok = audit.Answer(with(sized(1), lin(api.Ge, 1, 1)))
	fmt.Println(v.Kind == api.Unsat, ok)
	// Output:
	// true [0 1] true
	// true -2 [2 0] true
	// true true
}

func ExampleAll() {
	v, ok := audit.All(pair())
	fmt.Println(v.Kind == api.All, v.Count, ok)
	// Output:
	// true 6 true
}

func ExampleWeigh() {
	w, err := audit.Weigh("f 2\npol 1 2 +\nrup >= 0 ;\ndel id 3 4\nsolx x1\n")
	fmt.Println(w.Lines, w.Bytes, w.Rows, w.Gone, w.Peak, w.Longest, w.Kinds[api.StepDel], err)
	_, err = audit.Weigh("f 2\npol\n")
	var f *api.Fault
	if errors.As(err, &f) {
		fmt.Println(f.In == api.InLog, f.Line, f.Err == api.ErrProofEnd)
	}
	// Output:
	// 5 44 3 2 2 10 1 <nil>
	// true 2 true
}

func TestExamples(t *testing.T) { // P21.1, P21.2, P21.3: the chapter's
	if got := all(pair()); !sameLists(got, [][]int{{0, 1}, {0, 2}, {1, 0}, {1, 2}, {2, 0}, {2, 1}}) {
		t.Errorf("P21.1: %v", got)
	}
	answers(t, pair(), 6, api.Verdict{Kind: api.Sat, Values: []int{0, 1}})
	answers(t, withGoal(pair(), -1), 6, api.Verdict{Kind: api.Best, Worth: -2, Values: []int{2, 0}})
	answers(t, with(sized(1), lin(api.Ge, 1, 1)), 0, api.Verdict{Kind: api.Unsat})
}
