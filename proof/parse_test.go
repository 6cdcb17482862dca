package proof_test

import (
	"fmt"
	"strings"
	"testing"

	"hallmark/api"
	"hallmark/proof"
)

func TestKnownLines(t *testing.T) { // P8.3, P8.4
	for _, k := range known() {
		reads(t, k.line, k.step)
		words := strings.Fields(k.line)
		reads(t, "\t \t"+strings.Join(words, "\t")+"  \t", k.step)
		reads(t, " "+strings.Join(words, " \t  ")+"\t", k.step)
	}
}

func TestRemarks(t *testing.T) { // P8.3: a line without words, and one that begins with the word *
	for _, line := range []string{"", " ", "\t", " \t \t\t ", "*", " *", "* x", "*\tpol", "* * * \xff \x00", "* del id x", "* f -1\n\n\r", "*  f 3  "} {
		reads(t, line, api.Step{Kind: api.StepNote})
	}
	fails(t, aWord, "*x", "**", "*\n", "*\r", "#", "# x", "x *", "\n", "\r", "\x00", "\v", "\f", "\u00a0", "\u2003")
}

func TestWordsEndAtBlanksAndTabs(t *testing.T) { // P8.2: at nothing else
	for _, gap := range []string{"\n", "\r", "\v", "\f", "\u00a0", "\u2003", "\x00", ",", ""} {
		fails(t, aWord, "f"+gap+"3", "output"+gap+"NONE", "pol 3"+gap+"s")
		fails(t, aWord, "conclusion NONE"+gap+"x")
		fails(t, aNumber, "rup 1"+gap+"x1 >= 1 ;", "rup 1 x1"+gap+">= 1 ;")
		if gap != "" {
			fails(t, aNumber, "f 3"+gap, "f "+gap+"3", "soli x1"+gap, "soli "+gap+"x1", "f 3"+gap+" 3")
			fails(t, aWord, gap+"f 3", "output NONE"+gap, "output NONE "+gap)
		}
	}
}

func TestNumbers(t *testing.T) { // P8.2: those of layer 1, at every place of a number; an id, a count less
	const digits = "1000000000000000000000000000000000000000000000000000000000000000000000000000007"
	places := func(word string) (numbers, counts, ids []string) {
		return []string{"rup " + word + " x1 >= 1 ;", "rup 1 x1 " + word + " ~x2 >= 1 ;", "rup >= " + word + " ;", "e 1 >= " + word + " ;", "e 1 " + word + " x1 >= 1 ;", "conclusion BOUNDS " + word + " 3",
				"conclusion BOUNDS 3 " + word, "conclusion BOUNDS 3 : 3 " + word, "conclusion BOUNDS " + word + " : 3 3"},
			[]string{"f " + word, "conclusion ALL " + word + " : 3"},
			[]string{"rup >= 1 ; " + word, "rup >= 1 ; 1 " + word + " 1", "e " + word + " >= 1 ;", "del id " + word, "del id 1 " + word + " 1", "conclusion UNSAT : " + word, "conclusion ALL 3 : " + word,
				"conclusion BOUNDS 3 : " + word + " 3"}
	}
	takes := func(lines []string) {
		t.Helper()
		for _, line := range lines {
			if _, e := proof.Parse(line); e != api.OK {
				t.Errorf("%q: %d", line, e)
			}
		}
	}
	for _, word := range []string{"1", "9", "10", "9223372036854775808", digits} {
		numbers, counts, ids := places(word)
		takes(numbers)
		takes(counts)
		takes(ids)
		numbers, counts, ids = places("-" + word)
		takes(numbers)
		fails(t, aNumber, counts...)
		fails(t, aNumber, ids...)
	}
	numbers, counts, ids := places("0")
	takes(numbers)
	takes(counts)
	fails(t, aNumber, ids...)
	for _, word := range []string{"x", "x1", "~x1", "-", "-0", "00", "01", "-01", "+1", "1.0", "1e3", "0x1", "1_0", "--1", "1-", "٣", "\xff", "=", ">", "*", "id", digits + "x"} {
		numbers, counts, ids = places(word)
		fails(t, aNumber, numbers...)
		fails(t, aNumber, counts...)
		fails(t, aNumber, ids...)
	}
}

func TestLiterals(t *testing.T) { // P8.2: at every place of a literal
	places := func(word string) []string {
		return []string{"soli " + word, "soli x1 " + word + " x1", "solx " + word, "solx x3 " + word, "rup 1 " + word + " >= 1 ;", "rup 1 x1 2 " + word + " >= 1 ;", "e 1 1 " + word + " >= 1 ;"}
	}
	for word, want := range map[string]int{"x1": 1, "~x1": -1, "x10": 10, "x1073741823": 1<<30 - 1, "x1073741824": 1 << 30, "~x1073741824": -1 << 30, "~x9": -9} {
		reads(t, "soli "+word+" x3", api.Step{Kind: api.StepSoli, Lits: []int{want, 3}})
		reads(t, "solx "+word, api.Step{Kind: api.StepSolx, Lits: []int{want}})
		reads(t, "rup 1 "+word+" >= 1 ;", api.Step{Kind: api.StepRup, Row: one(want)})
		reads(t, "e 7 1 "+word+" >= 1 ;", api.Step{Kind: api.StepSame, Row: one(want), Ids: []string{"7"}})
		reads(t, "pol "+word, pol(lit(want)))
	}
	for _, word := range []string{"x", "~x", "~", "x0", "~x0", "x01", "x-1", "~x-1", "x+1", "-x1", "~~x1", "x~1", "xx1", "X1", "¬x1", "y1", "1", "-1", "x1073741825", "~x1073741825", "x9223372036854775808", "x18446744073709551617", "x1.0",
		"x1x", "x1;", ":", ">=", "*", "x" + strings.Repeat("1", 100), "\xffx1", "x１"} {
		fails(t, aNumber, places(word)...)
		if word != "1" && word != "-1" && word != "*" {
			fails(t, aWord, "pol "+word, "pol 1 "+word, "pol x1 w "+word)
		}
	}
}

func TestOps(t *testing.T) { // P8.4
	reads(t, "pol 3 *", pol(api.Op{Kind: api.OpTimes, N: "3"}))
	reads(t, "pol 3 d 4 d", pol(api.Op{Kind: api.OpDiv, N: "3"}, api.Op{Kind: api.OpDiv, N: "4"}))
	reads(t, "pol 3 4 5 * 6 + s", pol(row("3"), row("4"), api.Op{Kind: api.OpTimes, N: "5"}, row("6"), op(api.OpAdd), op(api.OpSaturate)))
	reads(t, "pol x3 x4 w x5 ~x6", pol(lit(3), api.Op{Kind: api.OpWeaken, L: 4}, lit(5), lit(-6)))
	reads(t, "pol +", pol(op(api.OpAdd)))
	reads(t, "pol s + s", pol(op(api.OpSaturate), op(api.OpAdd), op(api.OpSaturate)))
	fails(t, api.ErrProofEnd, "pol", "pol ", " pol\t")
	for _, mark := range []string{"*", "d", "w"} {
		fails(t, aWord, "pol "+mark, "pol + "+mark, "pol s "+mark, "pol ~x1 "+mark, "pol 3 * "+mark, "pol 3 d "+mark, "pol x1 w "+mark, "pol 3 4 + "+mark, "pol 3 x1 + "+mark)
	}
	fails(t, aWord, "pol x1 *", "pol x1 d", "pol 3 w", "pol 3 x1 *", "pol x1 3 w", "pol 3 4 w", "pol 3 4 * * ", "pol 3 d d", "pol x1 w w", "pol 3 * d", "pol ~x1 w", "pol x1 ~x1 w")
	fails(t, aNumber, "pol 0", "pol -1", "pol 0 *", "pol -1 d", "pol 3 0 *", "pol 3 4 + -100000000000000000000 d", "pol 0 w", "pol x1 0 w", "pol 3 * 0", "pol 3 * 0 *", "pol 0 y")
	fails(t, aWord, "pol 01", "pol -0", "pol x0", "pol 3*", "pol 3d", "pol x1w", "pol S", "pol D", "pol W", "pol -", "pol /", "pol 3 4 add", "pol y 0", "pol * 0", "pol ;", "pol >=", "pol 3 :", "pol 3 ;", "pol id", "pol a 3")
}

func TestLinesThatEndTooEarly(t *testing.T) { // P8.3: each line, cut behind each word
	for _, c := range []struct{ line, may string }{
		{"pseudo-Boolean proof version 2.0", "4"}, {"f 3", "2"}, {"pol 3 * x1 w ~x1 s", "2 3 4 5 6 7"}, {"rup 1 x1 2 x2 >= 1 ; 3 4", "8 9 10"}, {"rup >= 1 ;", "4"}, {"e 3 1 x1 >= 1 ;", "7"}, {"e 3 >= 1 ;", "5"},
		{"soli x1 x2", "1 2 3"}, {"solx x1 x2", "1 2 3"}, {"del id 3 4", "3 4"}, {"* a b", "1 2 3"}, {"output NONE", "2"}, {"conclusion NONE", "2"}, {"conclusion UNSAT : 3", "2 4"}, {"conclusion SAT", "2"},
		{"conclusion BOUNDS 3 4", "4"}, {"conclusion BOUNDS 3 : 4 5", "6"}, {"conclusion ALL 3 : 4", "5"}, {"end pseudo-Boolean proof", "3"},
	} {
		words := strings.Fields(c.line)
		for n := 1; n <= len(words); n++ {
			line := strings.Join(words[:n], " ")
			if strings.Contains(" "+c.may+" ", fmt.Sprintf(" %d ", n)) {
				if s, e := proof.Parse(line); e != api.OK || s.Kind == 0 {
					t.Errorf("%q: %+v, %d", line, s, e)
				}
				continue
			}
			fails(t, api.ErrProofEnd, line, line+" ", line+"\t \t")
		}
	}
}

func TestCertainWords(t *testing.T) { // P8.3: another word in the place of each
	for _, line := range []string{"%", "pseudo-Boolean %", "pseudo-Boolean proof %", "pseudo-Boolean proof version %", "rup 1 x1 >= 1 %", "rup >= 1 %", "e 3 1 x1 >= 1 %", "del %", "output %", "conclusion %", "conclusion UNSAT %",
		"conclusion ALL 3 %", "end %", "end pseudo-Boolean %"} {
		for _, word := range []string{"x", "1", "0", "-1", "x1", "~x1", "3", "Id", "none", "None", "NONEX", "sat", "Proof", "pseudo-boolean", "Pseudo-Boolean", "2.1", "2", "2.00", "02.0", "::", ";;", ":4", ";4", "=>", ">", ">=", "BEST", "\xff", "F", "POL"} {
			bad := strings.Replace(line, "%", word, 1)
			fails(t, aWord, bad, bad+" x", bad+" 1", bad+" : 4", " "+bad+" ")
		}
	}
	fails(t, aWord, "output UNSAT", "output SAT", "output :", "del del 3", "del ids 3", "conclusion OUTPUT", "conclusion :", "conclusion ; 3", "end proof", "end output", "version 2.0", "NONE", ":", ";", "proof")
}

func TestWordsTooMany(t *testing.T) { // P8.3: where nothing may stand
	for _, line := range []string{"pseudo-Boolean proof version 2.0", "f 3", "e 3 1 x1 >= 1 ;", "e 3 >= 1 ;", "output NONE", "conclusion NONE", "conclusion UNSAT : 3", "conclusion SAT", "conclusion BOUNDS 3 4", "conclusion BOUNDS 3 : 4 5",
		"conclusion ALL 3 : 4", "end pseudo-Boolean proof"} {
		for _, word := range []string{"1", "0", "x1", "x", ":", ";", "*", ">=", "NONE", "f", "\r", "\xff"} {
			fails(t, aWord, line+" "+word, line+"\t"+word+" 1 x", line+" "+word+" : 4")
		}
	}
}

func TestPiecesAndBounds(t *testing.T) { // P8.3: where two kinds of words may stand, and neither does
	for _, word := range []string{"x", "x1", "~x1", ">", "=>", "=", ";", ":", "01", "-0", "*", ">=1", "1>=", "\xff"} {
		fails(t, aNumber, "rup "+word, "rup "+word+" x1 >= 1 ;", "rup 1 x1 "+word, "rup 1 x1 "+word+" 1 ;", "e 3 "+word, "e 3 1 ~x1 "+word+" 1 ;")
		if word != ":" {
			fails(t, aNumber, "conclusion BOUNDS 3 "+word, "conclusion BOUNDS 3 "+word+" 4 5", "conclusion BOUNDS -3 "+word+" 4")
		}
	}
	fails(t, aNumber, "conclusion BOUNDS 3 : :", "conclusion BOUNDS 3 : 0 3", "conclusion BOUNDS 3 : x", "conclusion BOUNDS 3 : 4 :", "conclusion BOUNDS : 4 3", "conclusion BOUNDS 3 : 4 x", "conclusion BOUNDS 3 : -1 4")
	fails(t, aNumber, "rup >= ;", "rup >= >= 1 ;", "rup 1 >= 1 ;", "rup 1 1 x1 >= 1 ;", "rup x1 >= 1 ;", "rup 1 x1 x2 >= 1 ;", "e >= 1 ;", "e x1 >= 1 ;", "e -3 >= 1 ;", "conclusion ALL : 4", "conclusion ALL x", "conclusion UNSAT : :")
	fails(t, aWord, "rup >= 1 1", "rup >= 1 >= 1 ;", "conclusion UNSAT 4", "conclusion UNSAT 4 : 4", "conclusion UNSAT : 4 : 4", "conclusion BOUNDS 3 4 : 5", "conclusion ALL 3 4", "conclusion ALL 3 4 : 4")
}
