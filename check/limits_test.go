package check_test

import (
	"fmt"
	"strings"
	"testing"

	"hallmark/api"
)

// great: as many variables, values and constraints as may be; the numbers 1
// to 2016 say at least, 2017 to 4064 say is.
func great() string {
	names, m := "", ""
	for x := range api.MaxVars {
		m += fmt.Sprintf("var v%d 0 %d\n", x, api.MaxDomain-1)
		names += fmt.Sprint(" v", x)
	}
	m += "alldiff" + names + "\n"
	for x := range api.MaxCons - 1 {
		m += fmt.Sprintf("ne v%d v%d 1\n", x%api.MaxVars, (x+7)%api.MaxVars)
	}
	return m + "minimize 1 v0 1 v31\n"
}

// TestGreatProblem: at the limits of what a problem may be.
func TestGreatProblem(t *testing.T) { // P10.3 to P10.7
	m := great()
	falling := "soli" // of the variables from the first to the last one: 62, 60, .. 0
	for x := range api.MaxVars {
		for k := range api.MaxDomain - 1 {
			l := x*(api.MaxDomain-1) + k + 1
			if k >= 62-2*x {
				l = -l
			}
			falling += " " + literal(l)
		}
	}
	values := make([]int, api.MaxVars)
	for x := range values {
		values[x] = 62 - 2*x
	}
	for _, c := range []expect{
		{m, falling + " / BOUNDS -1 62", fmt.Sprint("Bounds 0 62 ", values)},
		{m, falling + " / BOUNDS 1 62", "105 at it"},
		{m, falling + " x4064 / NONE", "104 at 3"}, {m, falling + " x4065 / NONE", "102 at 3"}, {m, falling + " ~x4064 / NONE", "None"}, {m, falling + " x2079 / NONE", "None"},
		{m, falling[:strings.LastIndex(falling, " ")] + " / NONE", "None"}, {m, strings.Replace(falling, " ~x63 ", " ", 1) + " / NONE", "104 at 3"}, {m, strings.Replace(falling, " x62 ~x63", " x62 x63", 1) + " / NONE", "None"}, {m, strings.Replace(falling, " x62 ~x63", " ~x62 x63", 1) + " / NONE", "104 at 3"},
		{m, "pol x4064 ~x4064 + / NONE", "None"}, {m, "pol x4065 / NONE", "102 at 3"}, {m, "rup 1 ~x4064 1 x2016 >= 1 ; / NONE", "None"}, {m, "rup 1 ~x2016 1 x2015 1 x4065 >= 1 ; / NONE", "102 at 3"}, {m, "rup 1 x4064 >= 1 ; / NONE", "103 at 3"},
	} {
		c.askEnds(t, "at the limits")
	}
}
