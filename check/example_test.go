package check_test

import (
	"errors"
	"fmt"
	"testing"

	"hallmark/api"
	"hallmark/check"
)

func ExampleCheck() {
	m := "var x 0 3\nlin >= 2 1 x\nminimize 1 x\n"
	log := `pseudo-Boolean proof version 2.0
f 3
* of x the numbers 1 to 3 say that it is at least 1, 2, 3
soli x2 ~x3
pol 3 4 +
output NONE
conclusion BOUNDS 2 : 5 2
end pseudo-Boolean proof
`
	v, err := check.Check(m, log)
	fmt.Println(v.Kind == api.Best, v.Worth, v.Values, err)
	_, err = check.Check("var x 0 3\nminimize 1 x\n", log)
	var f *api.Fault
	if errors.As(err, &f) {
		fmt.Println(f.In == api.InLog, f.Line, f.Err == api.ErrCheckCount)
	}
	// Output:
	// true 2 [2] <nil>
	// true 2 true
}

// TestExamples: the chapter's.
func TestExamples(t *testing.T) { // P10.1 to P10.7
	for _, c := range []expect{
		{none, "f 1 / output NONE / conclusion UNSAT : 1", "Unsat"},
		{none, "f 1 / conclusion UNSAT : 1", "100 at 3"},
		{none, "f 2 / output NONE / conclusion UNSAT : 1", "101 at 2"},
		{none, "f 1 / output NONE / conclusion SAT", "105 at 4"},
		{none, "f 1 / del id 1 / output NONE / conclusion UNSAT : 1", "92 at 3"},
		{none, "f 1 / pol 1 1 / output NONE / conclusion UNSAT : 1", "93 at 3"},
		{none, "f 1 / pol + / output NONE / conclusion UNSAT : 1", "93 at 3"},
		{none, "f 1 / pol 1 0 * / output NONE / conclusion UNSAT : 1", "81 at 3"},
		{none, "f 1 / pol 2 / output NONE / conclusion UNSAT : 1", "90 at 3"},
		{none, "f 1 / rup 1 x1 >= 1 ; / output NONE / conclusion UNSAT : 1", "Unsat"},
		{none, "f 1 / rup 1 x2 >= 1 ; / output NONE / conclusion UNSAT : 1", "102 at 3"},
		{free, "f 0 / soli x1 / output NONE / conclusion SAT", "Sat [1]"},
		{free, "f 0 / soli / output NONE / conclusion SAT", "104 at 3"},
		{free, "f 0 / soli x1 ~x1 / output NONE / conclusion SAT", "104 at 3"},
		{free, "f 0 / soli x1 x2 / output NONE / conclusion SAT", "102 at 3"},
		{free, "f 0 / rup 1 x1 >= 1 ; / output NONE / conclusion SAT", "103 at 3"},
		{goal, "f 0 / soli x1 / e 1 1 ~x1 >= 1 ; / output NONE / conclusion BOUNDS 0 1", "Bounds 0 1 [1]"},
		{goal, "f 0 / soli x1 / output NONE / conclusion BOUNDS -7 1", "Bounds 0 1 [1]"},
		{goal, "f 0 / soli x1 / output NONE / conclusion BOUNDS 1 1", "105 at 5"},
		{goal, "f 0 / soli x1 / soli ~x1 / output NONE / conclusion BOUNDS 0 : 2 0", "Best 0 [0]"},
		{goal, "f 0 / soli x1 / soli ~x1 / output NONE / conclusion BOUNDS 0 0", "Best 0 [0]"},
		{goal, "f 0 / soli x1 / soli ~x1 / output NONE / conclusion UNSAT : 2", "105 at 6"},
		{free, "f 0 / solx x1 / solx ~x1 / pol 1 2 + / e 3 >= 1 ; / output NONE / conclusion ALL 2 : 3", "All 2"},
		{free, "f 0 / solx x1 / solx ~x1 / pol 1 2 + / e 3 >= 1 ; / output NONE / conclusion ALL 1 : 3", "105 at 8"},
		{free, "f 0 / solx x1 / solx x1 / pol 1 2 + / e 3 >= 1 ; / output NONE / conclusion ALL 2 : 3", "104 at 4"},
		{free, "f 0 / solx x1 / solx ~x1 / pol 1 2 + / e 3 >= 0 ; / output NONE / conclusion ALL 2 : 3", "106 at 6"},
		{free, "f 0 / solx x1 / solx ~x1 / rup >= 1 ; 1 2 / e 3 >= 1 ; / output NONE / conclusion ALL 2 : 3", "All 2"},
		{free, "f 0 / solx x1 / solx ~x1 / rup >= 1 ; 1 / e 3 >= 1 ; / output NONE / conclusion ALL 2 : 3", "103 at 5"},
	} {
		c.ask(t, "the chapter's examples")
	}
	if got := says(t, none, ""); got != "100 at 1" {
		t.Errorf("the empty log: %s", got)
	}
}
