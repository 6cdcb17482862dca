package check_test

import (
	"fmt"
	"strings"
	"testing"
)

// askEnds asks what is claimed behind steps; "at it" is the conclusion's line.
func (c expect) askEnds(t *testing.T, promise string) {
	t.Helper()
	all := lines(c.lines)
	list := append([]string{"f " + fmt.Sprint(len(rows(t, c.m)))}, all[:len(all)-1]...)
	list = append(list, "output NONE", "conclusion "+all[len(all)-1])
	want := strings.Replace(c.want, "at it", fmt.Sprint("at ", len(list)+1), 1)
	if got := says(t, c.m, log(list...)); got != want {
		t.Errorf("%s: %.200q, %.200q: %s, want %s", promise, c.m, c.lines, got, want)
	}
}

func TestEndsNone(t *testing.T) { // P10.7
	for _, c := range []expect{
		{none, "NONE", "None"}, {free, "NONE", "None"}, {goal, "soli x1 / NONE", "None"}, {free, "solx x1 / NONE", "None"}, {goal, "solx x1 / soli ~x1 / NONE", "None"}, {none, "NONE : 1", "80 at it"},
	} {
		c.askEnds(t, "P10.7")
	}
}

func TestEndsUnsat(t *testing.T) { // P10.7
	for _, c := range []expect{
		{none, "UNSAT : 1", "Unsat"}, {none, "rup >= 1 ; / UNSAT : 2", "Unsat"}, {none, "rup 5 x1 >= 6 ; / UNSAT : 2", "Unsat"}, {none, "rup 5 x1 >= 5 ; / UNSAT : 2", "105 at it"}, {none, "rup 1 x1 >= 1 ; / rup 1 ~x1 >= 1 ; / UNSAT : 3", "105 at it"},
		{none, "UNSAT", "105 at it"}, {none, "UNSAT : 2", "90 at it"}, {none, "UNSAT : " + huge, "90 at it"}, {none, "pol 1 / del id 2 / UNSAT : 2", "91 at it"}, {none, "pol 1 / del id 2 / UNSAT : 1", "Unsat"}, {none, "UNSAT : 0", "81 at it"}, {none, "UNSAT 1", "80 at it"},
		{"var x 0 1\nlin >= 2 1 x\nminimize 1 x\n", "UNSAT : 1", "Unsat"},
		{four, "UNSAT : 3", "105 at it"}, {four, "pol x1 / UNSAT : 4", "105 at it"}, {four, "UNSAT", "105 at it"}, {free, "UNSAT : 1", "90 at it"},
		{"var x 7 7\n", "solx / UNSAT : 1", "105 at it"}, {"var x 7 7\n", "solx / UNSAT : 2", "105 at it"}, {"var x 7 7\n", "soli / UNSAT : 1", "105 at it"}, {goal, "soli ~x1 / UNSAT : 1", "105 at it"}, {goal, "soli ~x1 / UNSAT : 9", "105 at it"}, // a solution was told
	} {
		c.askEnds(t, "P10.7")
	}
}

func TestEndsSat(t *testing.T) { // P10.7
	for _, c := range []expect{
		{free, "soli x1 / SAT", "Sat [1]"}, {free, "soli x1 / soli ~x1 / SAT", "Sat [0]"}, {free, "solx x1 / SAT", "Sat [1]"}, {free, "solx x1 / soli ~x1 / SAT", "Sat [0]"}, {free, "soli x1 / solx ~x1 / SAT", "Sat [0]"}, {free, "solx x1 / solx ~x1 / SAT", "Sat [0]"}, {free, "solx ~x1 / solx x1 / soli ~x1 / SAT", "Sat [0]"},
		{"var x -3 -1\nvar y 5 5\n", "soli x1 ~x2 / SAT", "Sat [-2 5]"}, {"var x 7 7\n", "soli / SAT", "Sat [7]"},
		{free, "SAT", "105 at it"}, {none, "SAT", "105 at it"}, {goal, "SAT", "105 at it"}, {goal, "soli x1 / SAT", "105 at it"}, {goal, "solx x1 / SAT", "105 at it"}, {free, "soli x1 / SAT x1", "80 at it"},
	} {
		c.askEnds(t, "P10.7")
	}
}

func TestEndsAll(t *testing.T) { // P10.7
	const both = "solx x1 / solx ~x1 / pol 1 2 + / "
	for _, c := range []expect{
		{free, both + "ALL 2 : 3", "All 2"}, {goal, both + "ALL 2 : 3", "All 2"}, {none, "ALL 0 : 1", "All 0"}, {"var x 7 7\n", "solx / ALL 1 : 1", "All 1"}, {pair, "solx x1 / solx x2 / rup >= 1 ; / ALL 2 : 5", "103 at 5"}, {pair, "solx x1 / solx x2 / rup 1 x1 >= 1 ; / rup >= 1 ; / ALL 2 : 6", "All 2"},
		{free, both + "ALL 1 : 3", "105 at it"}, {free, both + "ALL 3 : 3", "105 at it"}, {free, both + "ALL 0 : 3", "105 at it"}, {free, both + "ALL 18446744073709551618 : 3", "105 at it"}, {free, both + "ALL 4294967298 : 3", "105 at it"}, {free, both + "ALL -2 : 3", "81 at it"}, {free, both + "ALL 02 : 3", "81 at it"}, {free, both + "ALL 2", "82 at it"}, {free, both + "ALL 2 3", "80 at it"},
		{free, both + "ALL 2 : 1", "105 at it"}, {free, both + "ALL 2 : 4", "90 at it"}, {free, both + "del id 3 / ALL 2 : 3", "91 at it"}, {free, both + "del id 1 2 / ALL 2 : 3", "All 2"}, {free, both + "ALL 3 : 4", "105 at it"},
		{free, "solx x1 / ALL 1 : 1", "105 at it"}, {free, "ALL 0 : 1", "90 at it"},
		{free, both + "soli x1 / ALL 2 : 3", "105 at it"}, {free, "soli x1 / solx ~x1 / ALL 1 : 9", "105 at it"}, {"var x 7 7\nminimize 1 x\n", "soli / ALL 0 : 1", "105 at it"}, {"var x 7 7\nminimize 1 x\n", "soli / ALL 1 : 1", "105 at it"},
	} {
		c.askEnds(t, "P10.7")
	}
}

func TestEndsBounds(t *testing.T) { // P10.7
	const least = "var x 0 3\nlin >= 2 1 x\nminimize 1 x\n" // row 3 says that the worth is at least 2
	for _, c := range []expect{
		{goals, "soli x3 / BOUNDS 0 3", "Bounds 0 3 [3]"}, {goals, "soli x3 / BOUNDS -1 3", "Bounds 0 3 [3]"}, {goals, "soli x3 / BOUNDS -" + huge + " 3", "Bounds 0 3 [3]"}, {goals, "soli x3 / BOUNDS 1 3", "105 at it"}, {goals, "soli x3 / BOUNDS 3 3", "105 at it"}, {goals, "soli x3 / BOUNDS 4 3", "105 at it"}, {goals, "soli x3 / BOUNDS " + huge + " 3", "105 at it"},
		{goals, "soli x3 / BOUNDS 0 2", "105 at it"}, {goals, "soli x3 / BOUNDS 0 4", "105 at it"}, {goals, "soli x3 / BOUNDS 0 18446744073709551619", "105 at it"}, {goals, "soli x3 / BOUNDS 0 -3", "105 at it"}, {goals, "soli x3 / BOUNDS 0 03", "81 at it"},
		{goals, "soli x3 / soli x1 ~x2 / BOUNDS 0 1", "Bounds 0 1 [1]"}, {goals, "soli x3 / soli x1 ~x2 / BOUNDS 0 3", "105 at it"}, {goals, "soli ~x1 / BOUNDS 0 0", "Best 0 [0]"}, {goals, "soli ~x1 / BOUNDS -9 0", "Best 0 [0]"}, {goals, "soli ~x1 / BOUNDS 1 0", "105 at it"},
		{goals, "BOUNDS 0 0", "105 at it"}, {goals, "solx x3 / BOUNDS 0 3", "105 at it"}, {goals, "soli x3 / solx ~x1 / BOUNDS 0 0", "105 at it"}, {goals, "solx ~x1 / solx x3 / BOUNDS 0 3", "105 at it"}, {free, "soli x1 / BOUNDS 0 0", "105 at it"}, {free, "soli ~x1 / BOUNDS 0 0", "105 at it"}, {free, "BOUNDS 0 0", "105 at it"}, {none, "BOUNDS 0 : 1 0", "105 at it"},
		{least, "soli x3 / BOUNDS 2 : 3 3", "Bounds 2 3 [3]"}, {least, "soli x3 / BOUNDS 1 : 3 3", "Bounds 1 3 [3]"}, {least, "soli x3 / BOUNDS -5 : 3 3", "Bounds 0 3 [3]"}, {least, "soli x3 / BOUNDS -" + huge + " : 3 3", "Bounds 0 3 [3]"}, {least, "soli x3 / BOUNDS 3 : 3 3", "105 at it"}, {least, "soli x3 / BOUNDS 2 3", "105 at it"}, {least, "soli x3 / BOUNDS 0 3", "Bounds 0 3 [3]"},
		{least, "soli ~x3 / BOUNDS 2 : 3 2", "Best 2 [2]"}, {least, "soli ~x3 / BOUNDS 1 : 3 2", "Bounds 1 2 [2]"}, {least, "soli ~x3 / BOUNDS 2 2", "105 at it"}, {least, "soli ~x3 / BOUNDS 3 : 3 2", "105 at it"}, {least, "soli ~x3 / BOUNDS 3 : 9 2", "105 at it"}, {least, "soli ~x3 / BOUNDS 2 : 4 2", "105 at it"},
		{least, "soli x3 / BOUNDS 2 : 1 3", "105 at it"}, {least, "soli x3 / BOUNDS 0 : 1 3", "105 at it"}, {least, "soli x3 / BOUNDS 2 : 9 3", "90 at it"}, {least, "soli x3 / BOUNDS 2 : " + huge + " 3", "90 at it"}, {least, "soli x3 / del id 4 / BOUNDS 2 : 4 3", "91 at it"}, {least, "soli x3 / BOUNDS 2 : 0 3", "81 at it"}, {least, "soli x3 / BOUNDS 2 : 9 2", "105 at it"},
		{least, "soli x3 / pol 3 2 * / BOUNDS 2 : 5 3", "105 at it"}, {least, "soli x3 / pol 3 x1 w / BOUNDS 1 : 5 3", "105 at it"}, {least, "soli x3 / pol 3 ~x1 + / BOUNDS 1 : 5 3", "105 at it"}, {least, "soli x3 / pol x1 x2 + x3 + / BOUNDS 0 : 5 3", "Bounds 0 3 [3]"}, {least, "soli x3 / pol x1 x2 + x3 + / BOUNDS 1 : 5 3", "105 at it"}, {least, "soli x3 / pol x1 x2 + x3 + / BOUNDS -3 : 5 3", "Bounds 0 3 [3]"},
		{least, "soli ~x3 / pol 3 4 + / e 5 >= 1 ; / BOUNDS 2 : 5 2", "Best 2 [2]"}, {least, "soli ~x3 / pol 3 4 + / BOUNDS 1 : 5 2", "Bounds 1 2 [2]"}, {least, "soli ~x3 / pol 3 4 + / BOUNDS -4 : 5 2", "Bounds 0 2 [2]"}, {least, "soli ~x3 / pol 3 4 + / BOUNDS 3 : 5 2", "105 at it"}, {least, "soli ~x3 / pol 3 4 + x1 + / BOUNDS 2 : 5 2", "105 at it"}, {least, "soli ~x3 / pol 3 4 + x1 2 * + 2 * / BOUNDS 2 : 5 2", "105 at it"}, {least, "soli ~x3 / rup 3 x1 3 x2 >= 7 ; / BOUNDS 2 : 5 2", "103 at 4"}, {least, "soli ~x3 / pol 3 4 + / rup 3 x1 3 x2 >= 7 ; / BOUNDS 2 : 6 2", "Best 2 [2]"},
	} {
		c.askEnds(t, "P10.7")
	}
}

// TestEndsBoundsOfOddGoals: variables twice in a goal, negative worths, and great ones.
func TestEndsBoundsOfOddGoals(t *testing.T) { // P10.7
	const (
		nothing = "var x 0 1\nminimize 1 x -1 x\n" // its floor is -1, its worth 0
		below   = "var x -3 0\nvar y 0 1\nminimize 2 x -1 y\n"
		great   = "var x 999999999 1000000000\nminimize 1000000 x 1000000 x\n"
	)
	for _, c := range []expect{
		{nothing, "soli x1 / BOUNDS 0 0", "105 at it"}, {nothing, "soli x1 / BOUNDS -1 0", "Bounds -1 0 [1]"}, {nothing, "soli x1 / BOUNDS -9 0", "Bounds -1 0 [1]"}, {nothing, "soli x1 / BOUNDS 0 : 1 0", "Best 0 [1]"}, {nothing, "soli x1 / rup >= 0 ; / BOUNDS 0 : 2 0", "Best 0 [1]"}, {nothing, "soli x1 / pol x1 / BOUNDS 0 : 2 0", "105 at it"},
		{below, "soli ~x1 ~x4 / BOUNDS -7 -6", "Bounds -7 -6 [-3 0]"}, {below, "soli ~x1 ~x4 / BOUNDS -6 -6", "105 at it"}, {below, "soli ~x1 x4 / BOUNDS -7 -7", "Best -7 [-3 1]"}, {below, "soli x3 x4 / soli x3 ~x4 / NONE", "104 at 4"}, {below, "soli x3 x4 / BOUNDS -7 -1", "Bounds -7 -1 [0 1]"}, {below, "soli x3 x4 / pol x1 x2 + x3 + 2 * ~x4 + / BOUNDS -7 : 3 -1", "105 at it"}, {below, "soli x3 x4 / pol x1 x2 + x3 + 2 * ~x4 + / BOUNDS -7 : 4 -1", "Bounds -7 -1 [0 1]"}, {below, "soli x3 x4 / pol x1 x2 + x3 + 2 * ~x4 + / BOUNDS -6 : 4 -1", "105 at it"},
		{great, "soli x1 / BOUNDS 1999999998000000 2000000000000000", "Bounds 1999999998000000 2000000000000000 [1000000000]"}, {great, "soli x1 / soli ~x1 / BOUNDS 1 1999999998000000", "Best 1999999998000000 [999999999]"}, {great, "soli x1 / soli ~x1 / BOUNDS 1999999998000001 1999999998000000", "105 at it"}, {great, "soli x1 / BOUNDS 1999999998000001 2000000000000000", "105 at it"},
	} {
		c.askEnds(t, "P10.7")
	}
}
