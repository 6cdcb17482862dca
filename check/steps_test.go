package check_test

import (
	"fmt"
	"strings"
	"testing"
)

// Problems of a few rows. four: x1, x2, x3 say that x is at least 1, 2, 3; the
// rows 1 and 2 are x's, row 3 says that x is at least 2. pair: x1 and x2, the
// rows 1 and 2 say that both together are 1. picks: x1 of x, x2 and x3 of the
// table's rows.
const (
	four  = "var x 0 3\nlin >= 2 1 x\n"
	pair  = "var x 0 1\nvar y 0 1\nlin = 1 1 x 1 y\n"
	picks = "var x 0 1\ntable x : 1 : 1\n"
)

const huge = "340282366920938463463374607431768211457" // 2^128 + 1

func TestPol(t *testing.T) { // P10.3
	for _, c := range []expect{
		{four, "pol 1 2 + / e 4 1 x1 1 ~x3 >= 1 ;", "None"},
		{four, "pol 3 3 * x1 w 2 d / e 4 2 x2 2 x3 >= 2 ;", "None"},
		{four, "pol ~x3 2 * / e 4 2 ~x3 >= 0 ; / pol 3 4 + s / e 5 1 x1 1 x2 1 ~x3 >= 1 ;", "None"},
		{four, "pol 3 / pol 4 / del id 4 / pol 5 / e 6 1 x1 1 x2 1 x3 >= 2 ;", "None"},
		{four, "pol 3 " + huge + " * / e 4 " + huge + " x1 " + huge + " x2 " + huge + " x3 >= 680564733841876926926749214863536422914 ;", "None"},
		{four, "pol x3", "None"}, {four, "pol x3 x3 w", "None"}, {four, "pol 3 x3 w", "None"},
		{four, "pol x4", "102 at 3"}, {four, "pol ~x4", "102 at 3"}, {four, "pol 3 x4 w", "102 at 3"}, {four, "pol x1073741824", "102 at 3"}, {four, "pol ~x1073741824", "102 at 3"}, {four, "pol 3 x1073741824 w", "102 at 3"},
		{picks, "pol x3 ~x3 +", "None"}, {picks, "pol x4", "102 at 3"},
		{free, "pol x1", "None"}, {free, "pol x2", "102 at 3"}, {"var x 7 7\n", "pol x1", "102 at 3"},
		{four, "pol + x4", "102 at 3"}, {four, "pol 9 ~x4 +", "102 at 3"}, {four, "pol 9 x4 w", "102 at 3"}, {four, "pol x4 w", "102 at 3"}, {four, "pol x3 w", "93 at 3"}, {four, "pol 1 x5 x6 w", "102 at 3"},
		{four, "pol +", "93 at 3"}, {four, "pol 1 2", "93 at 3"}, {four, "pol 1 +", "93 at 3"}, {four, "pol 4", "90 at 3"}, {four, "pol 1 4 +", "90 at 3"}, {four, "pol " + huge, "90 at 3"}, {four, "pol 1 2 + +", "93 at 3"},
		{four, "pol 1 / del id 4 / pol 1 / pol 4", "91 at 6"}, {four, "pol 1 / del id 4 / pol 1 / e 5 1 x1 1 ~x2 >= 1 ;", "None"},
		{four, "pol", "82 at 3"}, {four, "pol 1 2 -", "80 at 3"}, {four, "pol 0", "81 at 3"}, {four, "pol x0", "80 at 3"}, {four, "pol ~x1 w", "80 at 3"}, {four, "pol x1073741825", "80 at 3"},
	} {
		c.askSteps(t, "P10.3")
	}
}

func TestRup(t *testing.T) { // P10.4
	for _, c := range []expect{
		{four, "rup 1 x1 >= 1 ; / e 4 1 x1 >= 1 ;", "None"}, {four, "rup 1 x2 >= 1 ;", "None"}, {four, "rup 1 x3 >= 1 ;", "103 at 3"}, {four, "rup >= 1 ;", "103 at 3"}, {four, "rup >= 0 ;", "None"}, {four, "rup >= -5 ; / e 4 >= 0 ;", "None"},
		{four, "rup 2 x1 -3 ~x2 1 x1 >= -1 ; / e 4 3 x1 3 x2 >= 2 ;", "None"},
		{four, "rup 1 x1 1 ~x1 >= 1 ; / e 4 >= 0 ;", "None"}, {four, "rup 1 x1 1 ~x1 >= 2 ;", "103 at 3"},
		{pair, "rup 1 x1 1 x2 >= 1 ;", "None"}, {pair, "rup 1 x1 >= 1 ;", "103 at 3"}, {pair, "rup " + huge + " x1 " + huge + " x2 >= " + huge + " ;", "None"},
		{four, "rup 1 x3 1 ~x3 >= 0 ;", "None"}, {four, "rup 1 x4 >= 0 ;", "102 at 3"}, {four, "rup 0 x4 >= 0 ;", "102 at 3"}, {four, "rup 1 x4 1 ~x4 >= 0 ;", "102 at 3"}, {four, "rup 1 x1 -1 ~x4 >= -9 ;", "102 at 3"}, {four, "rup 1 x1073741824 >= 0 ;", "102 at 3"},
		{picks, "rup 1 x2 1 x3 >= 1 ;", "None"}, {picks, "rup 1 x1 >= 1 ;", "None"}, {picks, "rup 1 x2 >= 1 ;", "103 at 3"}, {picks, "rup 0 x4 >= 0 ;", "102 at 3"},
		{four, "rup 1 x1 >= 1 ; 1 2 3", "None"}, {four, "rup 1 x1 >= 1 ; 3 1", "None"}, {four, "rup 1 x1 >= 1 ; 3 3 1 1", "None"}, {four, "rup 1 x1 >= 1 ; 1", "103 at 3"}, {four, "rup 1 x1 >= 1 ; 1 2", "103 at 3"}, {four, "rup >= 0 ; 3", "None"},
		{four, "rup 1 x1 >= 1 ; 1 3 4", "90 at 3"}, {four, "rup 1 x1 >= 1 ; 9", "90 at 3"}, {four, "rup 1 x3 >= 1 ; 1 9", "90 at 3"}, {four, "rup >= 0 ; 4", "90 at 3"}, {four, "rup >= 0 ; " + huge, "90 at 3"},
		{four, "rup 1 x4 >= 1 ; 9", "102 at 3"}, {four, "rup 0 x4 >= 1 ;", "102 at 3"},
		{four, "rup 1 x1 >= 1 ; / rup 1 x1 >= 1 ; 4 / del id 4 / rup 1 x1 >= 1 ; 5 / rup 1 x1 >= 1 ; 4", "91 at 7"}, {four, "pol 1 / del id 4 / rup >= 0 ; 4 9", "91 at 5"}, {four, "pol 1 / del id 4 / rup >= 0 ; 9 4", "90 at 5"},
		{free, "solx x1 / rup 1 ~x1 >= 1 ;", "None"}, {free, "solx x1 / del id 1 / rup 1 ~x1 >= 1 ;", "103 at 5"}, {free, "solx x1 / rup 1 ~x1 >= 1 ; / del id 1 / rup 1 ~x1 >= 1 ;", "None"},
		{four, "rup 1 x1 >= 1", "82 at 3"}, {four, "rup 1 x0 >= 1 ;", "81 at 3"}, {four, "rup 1 x1073741825 >= 1 ;", "81 at 3"}, {four, "rup 01 x1 >= 1 ;", "81 at 3"}, {four, "rup 1 x1 >= 1 ; 0", "81 at 3"}, {four, "rup 1 x1 = 1 ;", "81 at 3"},
	} {
		c.askSteps(t, "P10.4")
	}
}

func TestSame(t *testing.T) { // P10.4
	for _, c := range []expect{
		{four, "e 1 1 x1 1 ~x2 >= 1 ; / e 2 1 x2 1 ~x3 >= 1 ; / e 3 1 x1 1 x2 1 x3 >= 2 ;", "None"},
		{four, "e 3 1 x3 1 x2 1 x1 >= 2 ;", "None"}, {four, "e 3 1 x1 1 x2 2 x3 1 ~x3 >= 3 ;", "None"}, {four, "e 3 -1 ~x3 1 x2 1 x1 >= 1 ;", "None"}, {four, "e 3 1 x1 1 x2 1 x3 0 x1 >= 2 ;", "None"},
		{four, "e 1 1 x1 1 ~x2 >= 2 ;", "106 at 3"}, {four, "e 1 1 x1 1 ~x2 >= 0 ;", "106 at 3"}, {four, "e 1 1 x1 >= 1 ;", "106 at 3"}, {four, "e 1 2 x1 2 ~x2 >= 2 ;", "106 at 3"}, {four, "e 1 2 x1 1 ~x2 >= 1 ;", "106 at 3"}, {four, "e 1 1 ~x1 1 ~x2 >= 1 ;", "106 at 3"}, {four, "e 1 >= 0 ;", "106 at 3"}, {four, "e 2 1 x1 1 ~x2 >= 1 ;", "106 at 3"}, {four, "e 3 1 x1 1 x2 1 x3 1 ~x3 >= 3 ;", "106 at 3"},
		{four, "e 4 >= 0 ;", "90 at 3"}, {four, "e " + huge + " >= 0 ;", "90 at 3"}, {four, "pol 1 / del id 4 / e 4 1 x1 1 ~x2 >= 1 ;", "91 at 5"}, {four, "pol 1 / del id 4 / e 5 1 x1 1 ~x2 >= 1 ;", "90 at 5"},
		{four, "e 4 0 x4 >= 0 ;", "102 at 3"}, {four, "e 3 1 x1 1 x2 1 x3 0 ~x4 >= 2 ;", "102 at 3"}, {four, "e 3 1 x1 1 x2 1 x3 1 x4 1 ~x4 >= 3 ;", "102 at 3"},
		{four, "e 1 1 x1 1 ~x2 >= 1 ; / pol 4", "90 at 4"}, // it adds none
		{four, "e 1 1 x1 1 ~x2 >= 1 ; 1", "80 at 3"}, {four, "e 0 >= 0 ;", "81 at 3"}, {four, "e >= 0 ;", "81 at 3"},
	} {
		c.askSteps(t, "P10.4")
	}
}

func TestDel(t *testing.T) { // P10.6
	const two = "pol 1 / pol 2 / "
	for _, c := range []expect{
		{four, two + "del id 4", "None"}, {four, two + "del id 4 5", "None"}, {four, two + "del id 5 4", "None"}, {four, two + "del id 5 / del id 4", "None"},
		{four, two + "del id 4 4", "91 at 5"}, {four, two + "del id 4 / del id 4", "91 at 6"}, {four, two + "del id 4 5 4", "91 at 5"},
		{four, two + "del id 1", "92 at 5"}, {four, two + "del id 3", "92 at 5"}, {four, two + "del id 4 3", "92 at 5"}, {four, two + "del id 6", "90 at 5"}, {four, two + "del id 4 6", "90 at 5"}, {four, two + "del id " + huge, "90 at 5"},
		{four, two + "del id 6 1 4 4", "90 at 5"}, {four, two + "del id 1 6 4 4", "92 at 5"}, {four, two + "del id 4 4 1 6", "91 at 5"},
		{four, two + "del id 4 / pol 5 / del id 6 5 / e 6 >= 0 ;", "91 at 8"}, {four, two + "del id 4 5 / pol 3 / e 6 1 x1 1 x2 1 x3 >= 2 ;", "None"},
		{goal, "soli x1 / del id 1 / pol x1 / del id 1", "91 at 6"}, {free, "solx x1 / del id 1 / solx x1", "104 at 5"},
		{four, two + "del id", "82 at 5"}, {four, two + "del id 0", "81 at 5"}, {four, two + "del 4", "80 at 5"},
	} {
		c.askSteps(t, "P10.6")
	}
}

// TestManyRows: ids go on being what they are.
func TestManyRows(t *testing.T) { // P10.3, P10.6
	var list []string
	gone := "del id"
	for i := range 3000 {
		list = append(list, "pol 1 2 +", "pol 3 2 *")
		if i > 0 {
			gone += fmt.Sprintf(" %d %d", 2*i+2, 2*i+3)
		}
	}
	list = append(list, gone, "e 6002 1 x1 1 ~x3 >= 1 ;", "e 6003 2 x1 2 x2 2 x3 >= 4 ;", "pol 6002 6003 +", "e 6004 3 x1 2 x2 1 x3 >= 4 ;")
	expect{four, strings.Join(list, " / "), "None"}.askSteps(t, "P10.3, P10.6")
	expect{four, strings.Join(append(list, "del id 6001"), " / "), "91 at 6008"}.askSteps(t, "P10.6")
}
