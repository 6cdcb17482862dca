package text_test

import (
	"fmt"
	"strings"
	"testing"

	"hallmark/api"
)

// faultCase: lines behind `var x 0 3`, the last of which has the fault.
type faultCase struct {
	lines string
	e     api.Errno
}

func failAll(t *testing.T, cases []faultCase) {
	t.Helper()
	for _, c := range cases {
		line := 2 + strings.Count(c.lines, "\n")
		fails(t, "var x 0 3\n"+c.lines, line, c.e)
		fails(t, "var x 0 3\n"+c.lines+"\nnonsense\nvar x 0 0", line, c.e)
	}
}

func TestFirstWord(t *testing.T) { // P5.2, 1
	failAll(t, []faultCase{
		{"x", api.ErrTextWord}, {"Var y 0 1", api.ErrTextWord}, {"vars", api.ErrTextWord}, {"va", api.ErrTextWord}, {"all-diff x", api.ErrTextWord}, {":", api.ErrTextWord}, {"0", api.ErrTextWord},
		{"<= 1 1 x", api.ErrTextWord}, {"goal 1 x", api.ErrTextWord}, {"maximize 1 x", api.ErrTextWord}, {"\x00", api.ErrTextWord}, {"\xff# x", api.ErrTextWord}, {"x# y", api.ErrTextWord},
		{"minimize 1 x\nminimize 1 x", api.ErrTextGoal}, {"minimize 1 x\nminimize", api.ErrTextGoal}, {"minimize 1 x\nne x x 1\nminimize z", api.ErrTextGoal},
	})
	vars := ""
	for i := range api.MaxVars {
		vars += fmt.Sprintf("var v%d 0 1\n", i)
	}
	if f := faultOf(vars); f != (api.Fault{}) {
		t.Errorf("%d variables: %v", api.MaxVars, f)
	}
	for _, s := range []string{"var w 0 1", "var", "var v0 0 1", "var 9"} {
		fails(t, vars+s, 33, api.ErrModelVars)
	}
	cons := "var x 0 3\n" + strings.Repeat("ne x x 1\nalldiff x\n", api.MaxCons/2)
	if f := faultOf(cons + "minimize 1 x\nvar y 0 1"); f != (api.Fault{}) {
		t.Errorf("%d constraints: %v", api.MaxCons, f)
	}
	for _, s := range []string{"lin", "ne x x 1", "alldiff 9", "element", "max", "min", "reif", "table", "count ?"} {
		fails(t, cons+s, 66, api.ErrModelCons)
	}
	fails(t, cons+"con", 66, api.ErrTextWord)
}

func TestTooShort(t *testing.T) { // P5.2, 2: a right line of each kind, cut behind each word
	for _, c := range []struct {
		line string
		may  string // behind how many words it may end
	}{
		{"var y 0 1", "4"}, {"lin <= 1 1 x 2 x", "5 7"}, {"ne x x 1", "4"}, {"alldiff x x x", "2 3 4"}, {"element x x 1 2", "4 5"},
		{"max x x x", "3 4"}, {"min x x x", "3 4"}, {"reif x <= 1 1 x 2 x", "6 8"}, {"table x x : 1 2 : 3 4", "6 9"}, {"table x : 1 : 2", "4 6"},
		{"count = 1 2 x x", "5 6"}, {"minimize 1 x 2 x", "3 5"},
	} {
		words := strings.Fields(c.line)
		for n := 1; n <= len(words); n++ {
			s := "var x 0 3\n" + strings.Join(words[:n], " ")
			if strings.Contains(" "+c.may+" ", fmt.Sprintf(" %d ", n)) {
				if f := faultOf(s); f != (api.Fault{}) {
					t.Errorf("%q: %v", s, f)
				}
				continue
			}
			fails(t, s, 2, api.ErrTextShort)
			fails(t, s+" \t\n", 2, api.ErrTextShort)
		}
	}
}

func TestOperators(t *testing.T) { // P5.2, 3
	for _, op := range []string{"<", ">", "==", "=<", "=>", "!=", "<=4", "1", "x", "\"<=\"", ":", "≤"} {
		failAll(t, []faultCase{{"lin " + op + " 4 1 x", api.ErrTextWord}, {"count " + op + " 4 1 x", api.ErrTextWord}, {"reif x " + op + " 4 1 x", api.ErrTextWord}, {"lin " + op, api.ErrTextWord}})
	}
	failAll(t, []faultCase{{"reif x = 1 1 x", api.ErrTextWord}, {"reif x >= 1 1 x", api.ErrTextWord}, {"reif x 1 1 x", api.ErrTextWord}, {"reif z = 1 1 x", api.ErrTextUnknown}, {"lin <= <= 1 x", api.ErrTextNumber}})
}

func TestNamesThatCannotStand(t *testing.T) { // P5.2, 4: at every place of a name
	for _, c := range []string{
		"lin <= 1 1 %s", "lin <= 1 1 x 1 %s 1 x", "ne %s x 1", "ne x %s 1", "alldiff %s", "alldiff x %s x", "element %s x 1", "element x %s 1", "max %s x", "max x %s", "max x x %s",
		"min %s x", "min x %s", "reif %s <= 1 1 x", "reif x <= 1 1 %s", "table %s : 1", "table x %s : 1 1", "count = 1 1 %s", "count = 1 1 x %s", "minimize 1 %s", "minimize 1 x 1 %s",
	} {
		failAll(t, []faultCase{
			{fmt.Sprintf(c, "z"), api.ErrTextUnknown}, {fmt.Sprintf(c, "9"), api.ErrTextName}, {fmt.Sprintf(c, "<="), api.ErrTextName},
			{fmt.Sprintf(c, strings.Repeat("x", 16)), api.ErrTextUnknown}, {fmt.Sprintf(c, strings.Repeat("x", 17)), api.ErrTextName},
		})
	}
	failAll(t, []faultCase{
		{"var x", api.ErrTextTwice}, {"var x 9 0 0 0", api.ErrTextTwice}, {"var 9 z", api.ErrTextName}, {"var y 0 1\nvar y 0 1", api.ErrTextTwice}, {"var y 0 1\nvar x 0 1", api.ErrTextTwice},
		{"table :", api.ErrTextName}, {"table : : 1", api.ErrTextName}, {"alldiff x :", api.ErrTextName}, {"max : x", api.ErrTextName},
	})
}

func TestNumbersThatCannotStand(t *testing.T) { // P5.2, 5: at every place of a number
	for _, c := range []string{
		"lin <= %s 1 x", "ne x x %s", "element x x %s", "element x x 1 %s 1", "reif x <= %s 1 x", "table x : %s", "table x x : 1 %s", "table x x : 1 1 : %s 1", "count = %s 1 x", "count = 1 %s x",
	} {
		for word, e := range map[string]api.Errno{
			"x": api.ErrTextNumber, "01": api.ErrTextNumber, "-0": api.ErrTextNumber, ":": api.ErrTextNumber, "<=": api.ErrTextNumber, "1000000000": api.OK, "-1000000000": api.OK,
			"1000000001": api.ErrModelNumber, "-1000000001": api.ErrModelNumber, "99999999999999999999": api.ErrModelNumber, "0": api.OK,
		} {
			line := fmt.Sprintf(c, word)
			if f := faultOf("var x 0 3\n" + line); f.Err != e {
				t.Errorf("%q: %v, want %d", line, f, e)
			}
		}
	}
	for _, c := range []string{"lin <= 1 %s x", "lin <= 1 1 x %s x 1 x", "reif x <= 1 %s x", "minimize %s x", "minimize 1 x %s x", "minimize %s z", "minimize %s"} {
		for word, e := range map[string]api.Errno{
			"x": api.ErrTextNumber, "+1": api.ErrTextNumber, "00": api.ErrTextNumber, "0": api.ErrModelCoef, "1000001": api.ErrModelCoef, "-1000001": api.ErrModelCoef, "1000000001": api.ErrModelCoef,
			"99999999999999999999": api.ErrModelCoef, "1000000": api.OK, "-1000000": api.OK,
		} {
			line := fmt.Sprintf(c, word)
			if strings.HasSuffix(c, " z") && e == api.OK {
				e = api.ErrTextUnknown
			} else if strings.HasSuffix(c, "%s") && e == api.OK {
				e = api.ErrTextShort
			}
			if f := faultOf("var x 0 3\n" + line); f.Err != e {
				t.Errorf("%q: %v, want %d", line, f, e)
			}
		}
	}
}

func TestBounds(t *testing.T) { // P5.2, 5: a var's numbers
	failAll(t, []faultCase{
		{"var y 1000000001", api.ErrModelBounds}, {"var y -1000000001 z", api.ErrModelBounds}, {"var y 99999999999999999999 0", api.ErrModelBounds}, {"var y z 1000000001", api.ErrTextNumber},
		{"var y 1000000000 1000000001", api.ErrModelBounds}, {"var y 0 1000000001", api.ErrModelBounds}, {"var y 0 99999999999999999999", api.ErrModelBounds}, {"var y -1000000000 -1000000001", api.ErrModelBounds},
		{"var y -1000000001 -1000000000", api.ErrModelBounds}, {"var y 1 0", api.ErrModelBounds}, {"var y 1 0 z", api.ErrModelBounds}, {"var y 0 64", api.ErrModelBounds}, {"var y -1 63", api.ErrModelBounds},
		{"var y -1000000000 1000000000", api.ErrModelBounds}, {"var y 0 0x", api.ErrTextNumber}, {"var y 1 00", api.ErrTextNumber}, {"var y 99999999999999999999 99999999999999999999", api.ErrModelBounds},
	})
	for _, c := range []struct{ lo, hi int }{{0, 0}, {0, 63}, {-63, 0}, {-1, 62}, {1000000000, 1000000000}, {-1000000000, -1000000000}, {999999937, 1000000000}, {-1000000000, -999999937}, {5, 5}} {
		says(t, fmt.Sprintf("var y %d %d", c.lo, c.hi), api.Model{Vars: []api.Var{{Name: "y", Lo: c.lo, Hi: c.hi}}})
	}
}

func TestTooMany(t *testing.T) { // P5.2, 6
	for _, c := range []struct{ head, one string }{
		{"lin <= 1", " 1 x"}, {"alldiff", " x"}, {"element x x", " 1"}, {"max x", " x"}, {"min x", " x"}, {"reif x <= 1", " 1 x"}, {"count = 1 1", " x"}, {"minimize", " 1 x"},
	} {
		full := "var x 0 3\n" + c.head + strings.Repeat(c.one, api.MaxTerms)
		if f := faultOf(full); f != (api.Fault{}) {
			t.Errorf("%.40q: %v", full, f)
		}
		for _, more := range []string{c.one, " 1", " x", " 0", " z", " 01", " :", " 99999999999999999999", " 1 z", " \xff", c.one + c.one} {
			fails(t, full+more, 2, api.ErrModelMany)
		}
		fails(t, "var x 0 3\n"+c.head+strings.Repeat(c.one, api.MaxTerms-1)+" ?", 2, map[bool]api.Errno{true: api.ErrTextName, false: api.ErrTextNumber}[c.one == " x"])
	}
}

func TestTablesTooGreat(t *testing.T) { // P5.2, 6 and 7
	eight := "var x 0 3\ntable" + strings.Repeat(" x", api.MaxCols)
	row := " :" + strings.Repeat(" 1", api.MaxCols)
	if f := faultOf(eight + strings.Repeat(row, api.MaxTerms)); f != (api.Fault{}) {
		t.Errorf("8 columns, 64 rows: %v", f)
	}
	for _, more := range []string{" x", " z", " 9", " <=", " ::", " x : 1"} {
		fails(t, eight+more, 2, api.ErrModelMany)
	}
	fails(t, eight, 2, api.ErrTextShort)
	fails(t, eight+" :", 2, api.ErrTextShort)
	fails(t, eight+" : :", 2, api.ErrTextNumber)
	full := eight + strings.Repeat(row, api.MaxTerms)
	fails(t, full+" :", 2, api.ErrTextShort)
	for _, more := range []string{" 1", " z", " ::", " : :"} {
		for _, first := range []string{" : 1", " : z", " : :", " : 01", " : 99999999999999999999"} {
			fails(t, full+first, 2, api.ErrModelMany)
			fails(t, full+first+more, 2, api.ErrModelMany)
		}
	}
	fails(t, full+" 1", 2, api.ErrTextWord)
	fails(t, full+" x", 2, api.ErrTextWord)
	fails(t, eight+strings.Repeat(row, api.MaxTerms-1)+" : 1 z", 2, api.ErrTextNumber)
	fails(t, eight+strings.Repeat(row, api.MaxTerms-1)+" : 1", 2, api.ErrTextShort)
}

func TestRest(t *testing.T) { // P5.2, 7
	failAll(t, []faultCase{
		{"var y 0 1 1", api.ErrTextRest}, {"var y 0 1 z z", api.ErrTextRest}, {"var y 0 1 :", api.ErrTextRest}, {"var y 0 1 #", api.ErrTextRest}, {"ne x x 1 1", api.ErrTextRest}, {"ne x x 1 x", api.ErrTextRest}, {"ne x x 1 #", api.ErrTextRest},
		{"table x : 1 1", api.ErrTextWord}, {"table x : 1 x", api.ErrTextWord}, {"table x : 1 ::", api.ErrTextWord}, {"table x : 1 #", api.ErrTextWord}, {"table x x : 1 2 : 3 4 5", api.ErrTextWord}, {"table x x : 1 :", api.ErrTextNumber},
		{"table x : :", api.ErrTextNumber}, {"table x : x", api.ErrTextNumber}, {"table x 1", api.ErrTextName}, {"table x", api.ErrTextShort}, {"table", api.ErrTextShort},
	})
}

func TestEmpty(t *testing.T) { // P5.2: behind the last line
	for s, line := range map[string]int{"": 1, " ": 1, "#": 1, "\n": 2, "\n\n\n": 4, "# a\n# b": 2, "# a\n# b\n": 3, " \t\n\t": 2, strings.Repeat("\n", api.MaxModel): api.MaxModel + 1} {
		fails(t, s, line, api.ErrTextEmpty)
	}
}

func TestLong(t *testing.T) { // P5.2: ahead of all others
	for _, s := range []string{"var x 0 3\n", "cat\n", "", "\n\n", "var x 0 3\nlin < 1\n"} {
		for _, more := range []string{"#", "\n"} {
			most := s + strings.Repeat(more, api.MaxModel-len(s))
			if f := faultOf(most); f.Err == api.ErrTextLong {
				t.Errorf("%d bytes: %v", len(most), f)
			}
			fails(t, most+more, 1, api.ErrTextLong)
		}
	}
	most := "var x 0 3\n" + strings.Repeat(" ", api.MaxModel-10)
	says(t, most, api.Model{Vars: []api.Var{{Name: "x", Hi: 3}}})
	fails(t, most+" ", 1, api.ErrTextLong)
}
