package script_test

import (
	"math"
	"slices"
	"strings"
	"testing"

	"hallmark/api"
)

func TestPrint(t *testing.T) { // P20.5: a line of each kind
	prints(t, "")
	for kind, line := range strings.Fields("? problem log solve try check trim drop change show holds all core") {
		switch kind {
		case 0:
			continue
		case api.ActProblem, api.ActLog:
			prints(t, line+" \"\"\n", api.Act{Kind: kind})
			prints(t, line+" \"a  b\\x0a\"\n", api.Act{Kind: kind, Text: "a  b\n"})
		case api.ActSolve, api.ActAll, api.ActHolds:
			prints(t, line+"\n", api.Act{Kind: kind})
			prints(t, line+"\n", api.Act{Kind: kind, List: []int{}})
			prints(t, line+" 0 -1 1099511627776 -1099511627776\n", api.Act{Kind: kind, List: []int{0, -1, 1 << 40, -1 << 40}})
		case api.ActTry:
			prints(t, "try 0\n", api.Act{Kind: kind})
			prints(t, "try -7 8 9\n", api.Act{Kind: kind, N: -7, List: []int{8, 9}})
		case api.ActDrop:
			prints(t, "drop 0\n", api.Act{Kind: kind})
			prints(t, "drop -1099511627776\n", api.Act{Kind: kind, N: -1 << 40})
		case api.ActChange:
			prints(t, "change 0 \"\"\n", api.Act{Kind: kind})
			prints(t, "change 12 \"a\\\"\\\\\\x0a~ \"\n", api.Act{Kind: kind, N: 12, Text: "a\"\\\n~ "})
		default:
			prints(t, line+"\n", api.Act{Kind: kind})
			prints(t, line+"\n", api.Act{Kind: kind, List: []int{}})
		}
	}
	prints(t, "check\nshow\ncheck\n", api.Act{Kind: api.ActCheck}, api.Act{Kind: api.ActShow}, api.Act{Kind: api.ActCheck})
}

func TestPrintedBytes(t *testing.T) { // P20.5: each byte in its one form
	all := ""
	for b := range 256 {
		all += string([]byte{byte(b)})
	}
	prints(t, "log "+text(all)+"\n", api.Act{Kind: api.ActLog, Text: all})
	prints(t, `log "\x00\x1f \"!#[\\]~\x7f\x80\xff"`+"\n", api.Act{Kind: api.ActLog, Text: "\x00\x1f \"!#[\\]~\x7f\x80\xff"})
}

func TestActsWithoutText(t *testing.T) { // P20.5
	right := []api.Act{{Kind: api.ActCheck}, {Kind: api.ActLog, Text: "a"}, {Kind: api.ActSolve, List: []int{1}}}
	var wrong []api.Act
	for _, kind := range []int{0, -1, 13, 14, math.MinInt, math.MaxInt} {
		wrong = append(wrong, api.Act{Kind: kind})
	}
	for kind := 1; kind <= 12; kind++ {
		a := api.Act{Kind: kind}
		if !slices.Contains([]int{api.ActTry, api.ActDrop, api.ActChange}, kind) {
			wrong = append(wrong, api.Act{Kind: kind, N: 1}, api.Act{Kind: kind, N: -1})
		} else {
			for _, n := range []int{1<<40 + 1, -1<<40 - 1, math.MinInt, math.MaxInt} {
				wrong = append(wrong, api.Act{Kind: kind, N: n})
			}
		}
		if !slices.Contains([]int{api.ActProblem, api.ActLog, api.ActChange}, kind) {
			wrong = append(wrong, api.Act{Kind: kind, Text: "a"}, api.Act{Kind: kind, Text: " "}, api.Act{Kind: kind, Text: "\n"})
		}
		if !slices.Contains([]int{api.ActSolve, api.ActTry, api.ActAll, api.ActHolds}, kind) {
			wrong = append(wrong, api.Act{Kind: kind, List: []int{0}})
		} else {
			for _, n := range []int{1<<40 + 1, -1<<40 - 1, math.MinInt, math.MaxInt} {
				wrong = append(wrong, api.Act{Kind: kind, List: []int{1, n}})
			}
		}
		prints(t, written(a), a)
	}
	for _, a := range wrong {
		for at := range len(right) + 1 {
			l := slices.Insert(slices.Clone(right), at, a)
			refuses(t, at+1, l...)
			refuses(t, at+1, append(l, a, api.Act{})...)
		}
	}
}
