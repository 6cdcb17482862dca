package check_test

import (
	"fmt"
	"strings"
	"testing"
)

// goals: x1, x2, x3 say that x is at least 1, 2, 3, and x is to be little.
const goals = "var x 0 3\nminimize 1 x\n"

func TestSoli(t *testing.T) { // P10.5
	for _, c := range []expect{
		{four, "soli x1 x2 x3", "None"}, {four, "soli x3", "None"}, {four, "soli ~x3 x2", "None"}, {four, "soli ~x3", "None"}, // the Lin asks for the others
		{four, "soli", "104 at 3"}, {four, "soli x2", "104 at 3"}, {four, "soli x1 x2", "104 at 3"}, // x3 has no value
		{four, "soli ~x1", "104 at 3"}, {four, "soli ~x2", "104 at 3"}, {four, "soli x3 ~x1", "104 at 3"}, {four, "soli x1 ~x2 ~x3", "104 at 3"}, // conflicts
		{four, "soli x3 x3", "104 at 3"}, {four, "soli x3 ~x3", "104 at 3"}, {four, "soli x1 x2 x3 x1", "104 at 3"}, {four, "soli ~x3 ~x3", "104 at 3"},
		{four, "soli x3 x4", "102 at 3"}, {four, "soli x3 ~x4", "102 at 3"}, {four, "soli x4 x4", "102 at 3"}, {four, "soli x3 x3 x4", "102 at 3"}, {four, "soli ~x1 ~x4", "102 at 3"}, {four, "soli x1073741824", "102 at 3"}, {four, "soli ~x1073741824 x3", "102 at 3"},
		{"var x 7 7\nvar y -2 -2\n", "soli", "None"}, {"var x 7 7\n", "soli x1", "102 at 3"}, {"var x 7 7\nlin <= 6 1 x\n", "soli", "104 at 3"}, {"var x 7 7\nne x x 0\n", "soli", "104 at 3"},
		{none, "soli x1", "104 at 3"}, {none, "soli ~x1", "104 at 3"}, {none, "soli", "104 at 3"},
		{picks, "soli x1", "None"}, {picks, "soli x2", "None"}, {picks, "soli ~x3", "None"}, {picks, "soli x1 x2 x3", "None"}, {picks, "soli", "104 at 3"}, {picks, "soli ~x1", "104 at 3"}, {picks, "soli x1 ~x2 ~x3", "104 at 3"}, {picks, "soli x4", "102 at 3"}, // [row r] may be without a value, [x at least k] not
		{"var x 0 1\nvar y 0 1\nalldiff x y\n", "soli x3", "None"}, {"var x 0 1\nvar y 0 1\nalldiff x y\n", "soli x3 x5", "104 at 3"}, {"var x 0 1\nvar y 0 1\nalldiff x y\n", "soli x6 ~x5 x3 ~x4 ~x1 x2", "None"},
		{pair, "soli x1", "None"}, {pair, "soli ~x1 x2", "None"}, {pair, "soli x1 x2", "104 at 3"},
		{free, "solx x1 / soli", "104 at 4"}, {free, "rup >= 0 ; / solx ~x1 / soli", "104 at 5"}, {goals, "soli ~x3 x2 / soli ~x2", "104 at 4"}, // the problem's rows alone
		{free, "soli x1 / pol 1", "90 at 4"}, {free, "soli x1 / soli x1 / soli ~x1 / soli x1", "None"}, // without a goal none is added, and no worth is asked
		{free, "soli 1", "81 at 3"}, {free, "soli x0", "81 at 3"}, {free, "soli x1073741825", "81 at 3"},
	} {
		c.askSteps(t, "P10.5")
	}
}

func TestSoliWithAGoal(t *testing.T) { // P10.5
	for _, c := range []expect{
		{goals, "soli x3 / e 3 1 ~x1 1 ~x2 1 ~x3 >= 1 ;", "None"}, {goals, "soli x3 / soli x2 ~x3 / e 4 1 ~x1 1 ~x2 1 ~x3 >= 2 ; / soli ~x1 / e 5 1 ~x1 1 ~x2 1 ~x3 >= 4 ;", "None"},
		{goals, "soli x2 ~x3 / soli x2 ~x3", "104 at 4"}, {goals, "soli x2 ~x3 / soli x3", "104 at 4"}, {goals, "soli ~x1 / soli ~x1", "104 at 4"}, {goals, "soli x3 / soli ~x1 / soli x1 ~x2", "104 at 5"},
		{goals, "soli x3 / del id 3 / soli x3", "104 at 5"}, {goals, "soli x3 / del id 3 / soli x2 ~x3 / del id 4 / soli x2 ~x3", "104 at 7"},
		{goals, "soli x3 / e 3 1 ~x1 1 ~x2 1 ~x3 >= 1 ; / e 4 >= 0 ;", "90 at 5"},
		{"var x 0 3\nvar y 0 1\nminimize -2 x 1 y\n", "soli ~x1 x4 / e 3 2 x1 2 x2 2 x3 1 ~x4 >= 1 ; / soli ~x1 ~x4 / e 4 2 x1 2 x2 2 x3 1 ~x4 >= 2 ; / soli x3 x4 / soli x3 ~x4 / soli x3 x4", "104 at 9"},
		{"var x 0 1\nminimize 1 x -1 x\n", "soli x1 / e 1 >= 1 ; / soli ~x1", "104 at 5"},
		{"var x 1000000000 1000000000\nvar y 0 1\nminimize 1000000 x -1000000 y\n", "soli ~x1 / e 1 1000000 x1 >= 1 ; / soli x1 / e 2 1000000 x1 >= 1000001 ;", "None"},
	} {
		c.askSteps(t, "P10.5")
	}
}

func TestSolx(t *testing.T) { // P10.5
	for _, c := range []expect{
		{free, "solx x1 / e 1 1 ~x1 >= 1 ; / solx ~x1 / e 2 1 x1 >= 1 ;", "None"}, {four, "solx x3 / e 4 1 ~x3 >= 1 ; / solx ~x3 / e 5 1 ~x2 1 x3 >= 1 ;", "None"}, {picks, "solx x2 / e 4 1 ~x1 >= 1 ;", "None"},
		{"var x 7 7\n", "solx / e 1 >= 1 ;", "None"}, {"var x 7 7\n", "solx / solx", "104 at 4"},
		{pair, "solx x1 / e 3 1 ~x1 1 x2 >= 1 ; / solx x2", "None"},
		{four, "solx", "104 at 3"}, {four, "solx x2", "104 at 3"}, {four, "solx ~x2", "104 at 3"}, {four, "solx x3 x3", "104 at 3"}, {four, "solx x3 ~x4", "102 at 3"}, {four, "solx x4 x4", "102 at 3"}, {four, "solx x1073741824", "102 at 3"}, {none, "solx x1", "104 at 3"},
		{free, "solx x1 / solx x1", "104 at 4"}, {free, "solx x1 / solx ~x1 / solx x1", "104 at 5"}, {free, "soli x1 / solx x1", "104 at 4"}, {free, "soli x1 / soli ~x1 / solx x1", "104 at 5"}, {free, "soli ~x1 / solx x1", "None"}, {four, "solx x3 / solx x1 x2 x3", "104 at 4"}, {picks, "solx x2 / solx x3", "104 at 4"},
		{free, "solx x1 / soli x1", "None"}, {free, "solx x1 / soli x1 / soli x1 / solx ~x1", "None"},
		{free, "solx x1 / solx", "104 at 4"}, {free, "solx x1 / del id 1 / solx x1", "104 at 5"},
		{goals, "solx x1 ~x2 / solx x3 / solx ~x1 / e 5 1 x1 >= 1 ;", "None"}, {goals, "soli x1 ~x2 / solx x3 / e 4 1 ~x3 >= 1 ;", "None"}, // no worth is asked
	} {
		c.askSteps(t, "P10.5")
	}
}

// TestToldByEitherKind: with a goal a StepSoli must be better than every
// solution that was told ahead, by whichever step.
func TestToldByEitherKind(t *testing.T) { // P10.5
	for _, c := range []expect{
		{goals, "solx x2 ~x3 / soli x1 ~x2 / e 4 1 ~x1 1 ~x2 1 ~x3 >= 3 ;", "None"}, {goals, "solx x2 ~x3 / soli x2 ~x3", "104 at 4"}, {goals, "solx x2 ~x3 / soli x3", "104 at 4"},
		{goals, "solx ~x1 / solx x3 / soli x1 ~x2", "104 at 5"}, {goals, "soli x1 ~x2 / solx x3 / soli x2 ~x3", "104 at 5"}, {goals, "soli x1 ~x2 / solx x3 / soli ~x1", "None"},
	} {
		c.askSteps(t, "P10.5")
	}
}

// TestManySolutions: 4096 of them, each told once.
func TestManySolutions(t *testing.T) { // P10.5
	m, all := "", []string{""}
	for x := range 12 {
		m += fmt.Sprintf("var v%d 0 1\n", x)
		var longer []string
		for _, s := range all {
			longer = append(longer, fmt.Sprintf("%s x%d", s, x+1), fmt.Sprintf("%s ~x%d", s, x+1))
		}
		all = longer
	}
	list := "solx" + strings.Join(all, " / solx")
	expect{m, list, "None"}.askSteps(t, "P10.5")
	expect{m, list + " / solx" + all[77], "104 at 4099"}.askSteps(t, "P10.5")
}
