package script_test

import (
	"fmt"
	"strings"
	"testing"

	"hallmark/api"
	"hallmark/script"
)

func TestLines(t *testing.T) { // P20.1
	check, show := api.Act{Kind: api.ActCheck}, api.Act{Kind: api.ActShow}
	for _, s := range []string{"", "\n", "\n\n\n", " ", "\t", " \t \n\t", "#", "# check", "\t# \"", "#\xff\x00\n", "##\n #check\n"} {
		reads(t, s)
	}
	for _, s := range []string{"check", "check\n", "\ncheck", " check", "\tcheck\t ", "check#", "check# \"", "check #show", "\n#\ncheck\n\n", "check#\"\n"} {
		reads(t, s, check)
	}
	for _, s := range []string{"check\nshow", "check\nshow\n", "check\n\nshow", "check#\n#\nshow # check"} {
		reads(t, s, check, show)
	}
	for line := 1; line < 9; line++ {
		fails(t, strings.Repeat("# x\n", line-1)+"x", line, api.ErrScriptWord)
		fails(t, strings.Repeat("\n", line-1)+"drop\nx\n", line, api.ErrScriptEnd)
		fails(t, strings.Repeat("check\n", line-1)+"drop x\n\nx", line, api.ErrScriptNumber)
		fails(t, strings.Repeat(" \t\n", line-1)+"drop x y", line, api.ErrScriptNumber)
	}
}

func TestOnlyLineFeedsEndLines(t *testing.T) { // P20.1
	for _, c := range []string{"\r", "\v", "\f", "\x00", "\u0085", "\u00a0", "\u2028", ";", "\xff", "'"} {
		fails(t, "check"+c, 1, api.ErrScriptWord)
		fails(t, c+"check", 1, api.ErrScriptWord)
		fails(t, "check"+c+"\nshow", 1, api.ErrScriptWord)
		fails(t, "\n"+c, 2, api.ErrScriptWord)
		fails(t, "drop 1"+c, 1, api.ErrScriptNumber)
		reads(t, "#"+c+"x\ncheck", api.Act{Kind: api.ActCheck})
	}
}

func TestWordsAndTexts(t *testing.T) { // P20.1: what ends a word
	log := api.Act{Kind: api.ActLog, Text: "a b"}
	for _, s := range []string{`log "a b"`, `log"a b"`, `log"a b"#`, "log\t\"a b\"\t", `  log   "a b"  # "`} {
		reads(t, s, log)
	}
	for _, s := range []string{`change 7 "a b"`, `change 7"a b"`, "change\t7\"a b\"#x"} {
		reads(t, s, api.Act{Kind: api.ActChange, N: 7, Text: "a b"})
	}
	reads(t, `log "#"#"`, api.Act{Kind: api.ActLog, Text: "#"})
	reads(t, "solve 1#2", api.Act{Kind: api.ActSolve, List: []int{1}})
	reads(t, "solve#2", api.Act{Kind: api.ActSolve})
	fails(t, `log "a""b"`, 1, api.ErrScriptWord)
	fails(t, `log "a"b`, 1, api.ErrScriptWord)
	fails(t, `log a"b"`, 1, api.ErrScriptWord)
	fails(t, `"log" "a"`, 1, api.ErrScriptWord)
	fails(t, `change "7" "a"`, 1, api.ErrScriptNumber)
	fails(t, `solve 1"2"`, 1, api.ErrScriptNumber)
	fails(t, "log #", 1, api.ErrScriptEnd)
	fails(t, "drop# 1", 1, api.ErrScriptEnd)
}

func TestQuotedTexts(t *testing.T) { // P20.2
	for b := range 256 {
		said := api.Act{Kind: api.ActLog, Text: "<" + string([]byte{byte(b)}) + ">"}
		reads(t, fmt.Sprintf(`log "<\x%02x>"`, b), said)
		raw := "log \"<" + string([]byte{byte(b)}) + ">\""
		switch {
		case b == '"' || b == '\\' || b < 0x20 || b > 0x7e:
			fails(t, raw, 1, api.ErrScriptWord)
		default:
			reads(t, raw, said)
		}
		escaped := "log \"<\\" + string([]byte{byte(b)}) + ">\""
		switch b {
		case '"', '\\':
			reads(t, escaped, said)
		default:
			fails(t, escaped, 1, api.ErrScriptWord)
		}
		for _, x := range []string{`log "\x` + string([]byte{byte(b)}) + `0"`, `log "\x0` + string([]byte{byte(b)}) + `"`} {
			if strings.IndexByte("0123456789abcdef", byte(b)) < 0 {
				fails(t, x, 1, api.ErrScriptWord)
			} else if _, err := script.Parse(x); err != nil {
				t.Errorf("%q: %v", x, err)
			}
		}
	}
	reads(t, `log ""`, api.Act{Kind: api.ActLog})
	reads(t, `log "\\\"\x22\x5c\\"`, api.Act{Kind: api.ActLog, Text: `\""\\`})
	reads(t, `log "\x5cx41"`, api.Act{Kind: api.ActLog, Text: `\x41`})
	reads(t, `log "\x411"`, api.Act{Kind: api.ActLog, Text: "A1"})
	reads(t, `log "  # a  "`, api.Act{Kind: api.ActLog, Text: "  # a  "})
}

func TestBadTextsStandNowhere(t *testing.T) { // P20.2: whatever is wanted, or if nothing is
	for _, bad := range []string{`"`, `"a`, `"a\`, `"a\"`, `"\n"`, `"\X41"`, `"\x"`, `"\x4"`, `"\x4g"`, `"\xA0"`, "\"\t\"", "\"\x00\"", "\"\xff\"", `"a\" # b`, "\"a\nb\""} {
		for _, ahead := range []string{"", "log ", "problem", `log "a" `, "drop ", "drop 1 ", "solve ", "solve 1 ", "all 1 2", "try ", "try 1", "change", "change 1 ", `change 1 "a"`, "check ", "show", "core", "trim", "holds", "holds -1 "} {
			fails(t, ahead+bad, 1, api.ErrScriptWord)
			fails(t, "check\n"+ahead+bad+" x", 2, api.ErrScriptWord)
		}
		fails(t, "drop x "+bad, 1, api.ErrScriptNumber) // what stands further to the left is told
		fails(t, "solve 01 "+bad, 1, api.ErrScriptNumber)
		if !strings.Contains(bad, "\n") {
			reads(t, "check #"+bad, api.Act{Kind: api.ActCheck})
		}
	}
}

func TestNumbers(t *testing.T) { // P20.3
	for word, n := range map[string]int{
		"0": 0, "1": 1, "-1": -1, "9": 9, "10": 10, "-10": -10, "1000000000": 1000000000, "1099511627775": 1<<40 - 1, "1099511627776": 1 << 40, "-1099511627776": -1 << 40,
	} {
		reads(t, "drop "+word, api.Act{Kind: api.ActDrop, N: n})
		reads(t, "solve "+word+" "+word, api.Act{Kind: api.ActSolve, List: []int{n, n}})
		reads(t, "try "+word+"\t"+word, api.Act{Kind: api.ActTry, N: n, List: []int{n}})
		reads(t, "change "+word+`"a"`, api.Act{Kind: api.ActChange, N: n, Text: "a"})
	}
	for _, word := range []string{
		"x", "-", "--1", "-0", "00", "01", "-01", "+1", "+", "1x", "x1", "1.0", "1e3", "0x1", "1_0", "1,2", "1-", "1-2", "1099511627777", "-1099511627777", "2000000000000", "9223372036854775808", "18446744073709551617",
		"99999999999999999999999999999999", strings.Repeat("1", 60000), "\xff", "1\r", "١", `"1"`, `""`, `"x"`, "check",
	} {
		for _, ahead := range []string{"drop ", "try ", "change ", "solve ", "solve 1 ", "try 1 ", "all 1 -2 ", "holds "} {
			fails(t, ahead+word, 1, api.ErrScriptNumber)
			fails(t, ahead+word+" 1 x", 1, api.ErrScriptNumber)
		}
	}
}

func TestWhatIsWanted(t *testing.T) { // P20.3, P20.4: act by act, from place to place
	for _, s := range []string{"problem", "log", "try", "drop", "change", "change 1", "change 1 ", "drop\t", "log #\"a\""} {
		fails(t, s, 1, api.ErrScriptEnd)
	}
	for _, s := range []string{
		"problem x", "problem 1", "log check", "change 1 x", "change 1 2", `change 1 2 "a"`, "drop 1 1", "drop 1 x", `drop 1 "a"`, `problem "a" 1`, `log "a" x`, `change 1 "a" "b"`, `change 1 "a" 1`,
		"check 1", "check check", `check "a"`, "trim 1", "show x", "core 0", `core ""`,
		"Check", "checks", "chec", "PROBLEM \"a\"", "more", "none", "0", "-1", `"a"`, `""`, "problem_", "solve1", "solve-1",
	} {
		fails(t, s, 1, api.ErrScriptWord)
	}
}

func TestActs(t *testing.T) { // P20.4: a line of each kind; fields that aren't named are zero
	reads(t, `problem "a\x0ab"`, api.Act{Kind: api.ActProblem, Text: "a\nb"})
	reads(t, `log "a"`, api.Act{Kind: api.ActLog, Text: "a"})
	reads(t, "solve", api.Act{Kind: api.ActSolve})
	reads(t, "solve 1 -2 0", api.Act{Kind: api.ActSolve, List: []int{1, -2, 0}})
	reads(t, "try 5", api.Act{Kind: api.ActTry, N: 5})
	reads(t, "try -5 1 -2", api.Act{Kind: api.ActTry, N: -5, List: []int{1, -2}})
	reads(t, "check", api.Act{Kind: api.ActCheck})
	reads(t, "trim", api.Act{Kind: api.ActTrim})
	reads(t, "drop 0", api.Act{Kind: api.ActDrop})
	reads(t, `change 3 "x"`, api.Act{Kind: api.ActChange, N: 3, Text: "x"})
	reads(t, "show", api.Act{Kind: api.ActShow})
	reads(t, "all", api.Act{Kind: api.ActAll})
	reads(t, "all 4", api.Act{Kind: api.ActAll, List: []int{4}})
	reads(t, "core", api.Act{Kind: api.ActCore})
	reads(t, "holds", api.Act{Kind: api.ActHolds})
	reads(t, "holds 3 -4", api.Act{Kind: api.ActHolds, List: []int{3, -4}})
}
