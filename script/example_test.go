package script_test

import (
	"errors"
	"fmt"
	"testing"

	"hallmark/api"
	"hallmark/script"
)

func ExampleParse() {
	acts, err := script.Parse("# nothing yet\ntry 9 1 -2 # fuel, and where to split\n")
	fmt.Println(acts[0].Kind == api.ActTry, acts[0].N, acts[0].List, err)
	_, err = script.Parse("check\nlog x\n")
	var f *api.Fault
	if errors.As(err, &f) {
		fmt.Println(f.Line, f.Err == api.ErrScriptWord)
	}
	// Output:
	// true 9 [1 -2] <nil>
	// 2 true
}

func ExamplePrint() {
	s, err := script.Print([]api.Act{{Kind: api.ActProblem, Text: "var x 0 3\n"}, {Kind: api.ActSolve, List: []int{0, 5}}})
	fmt.Print(s, err, "\n")
	// Output:
	// problem "var x 0 3\x0a"
	// solve 0 5
	// <nil>
}

// seven: the chapter's first example.
const seven = `problem "var x 0 3\x0alin >= 2 1 x\x0aminimize 1 x\x0a"   # one variable
solve 0 5
check
drop 1
holds 3
log "x"
check
`

func ExamplePlay() {
	s, err := script.Play(seven)
	fmt.Print(s, err, "\n")
	// Output:
	// problem 1 1
	// best 2 2
	// best 2 2
	// made
	// solution 3
	// lines 1
	// fault 2 1 80
	// <nil>
}

func TestExamples(t *testing.T) { // P20.1 to P20.7
	reads(t, seven, api.Act{Kind: api.ActProblem, Text: "var x 0 3\nlin >= 2 1 x\nminimize 1 x\n"}, api.Act{Kind: api.ActSolve, List: []int{0, 5}}, api.Act{Kind: api.ActCheck},
		api.Act{Kind: api.ActDrop, N: 1}, api.Act{Kind: api.ActHolds, List: []int{3}}, api.Act{Kind: api.ActLog, Text: "x"}, api.Act{Kind: api.ActCheck})
	for _, s := range []string{"log", "try", "change 1"} {
		fails(t, s, 1, api.ErrScriptEnd)
	}
	for _, s := range []string{"log x", "check 1", "go", `log "a" "b"`} {
		fails(t, s, 1, api.ErrScriptWord)
	}
	for _, s := range []string{"drop x", "solve x", `try "1"`} {
		fails(t, s, 1, api.ErrScriptNumber)
	}
	reads(t, "")
	plays(t, "")
	plays(t, "check", "fault 1 1 59")
}
