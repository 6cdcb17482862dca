package solve_test

import (
	"fmt"
	"math/big"
	"slices"
	"strconv"
	"strings"
	"sync"
	"testing"

	"hallmark/api"
	"hallmark/model"
	"hallmark/solve"
)

// vars: so many variables from one number to another.
func vars(n, lo, hi int) string {
	var b strings.Builder
	for x := range n {
		fmt.Fprintf(&b, "var x%d %d %d\n", x, lo, hi)
	}
	return b.String()
}

// each: n times what a form makes of 0, 1, ..
func each(n int, form string) string {
	var b strings.Builder
	for i := range n {
		b.WriteString(strings.ReplaceAll(form, "%", strconv.Itoa(i)))
	}
	return b.String()
}

// TestGreatestProblems: as much of each thing as a problem may have.
func TestGreatestProblems(t *testing.T) { // P22.2, P18.6
	const far = api.MaxValue
	names := each(32, " x%")
	for i, c := range []struct {
		m    string
		fuel int
		want int
	}{
		{vars(32, 0, 63), 33, api.Sat}, {vars(32, 0, 63), 32, api.None}, {vars(32, far-63, far) + "minimize" + each(32, " 1000000 x%") + each(32, " 1000000 x%") + "\n", 33, api.Best}, {vars(32, -far, 63-far) + "minimize" + each(32, " -1000000 x%") + each(32, " -1000000 x%") + "\n", 500, api.Bounds},
		{vars(32, 0, 62) + "alldiff" + names + names + "\n", 2, api.Unsat}, {vars(32, 0, 30) + "alldiff" + names + "\n", 2, api.Unsat},
		{vars(16, far-31, far) + "lin = 1000000000" + each(16, " 1000000 x%") + each(16, " -1000000 x%") + each(16, " -999999 x%") + each(16, " 1000000 x%") + "\n", 2000, api.Unsat}, {vars(16, far-31, far) + "lin >= -1000000000" + each(16, " 1000000 x%") + each(16, " -1000000 x%") + "\n", 2000, api.Sat},
		{vars(2, 0, 63) + "element x0 x1" + each(64, " %") + "\nne x0 x1 0\n", 5000, api.Unsat}, {vars(8, 0, 63) + "table" + each(8, " x%") + each(64, " : % % % % % % % %") + "\nne x0 x7 0\n", 20, api.None}, {vars(2, 0, 63) + "table x0 x1" + each(64, " : % %") + "\nne x1 x0 0\n", 5000, api.Unsat},
		{vars(32, 0, 3) + "max x0" + names + names + "\nmin x1" + names + "\nlin <= 1 1 x0\nlin >= 2 1 x1\n", 100, api.Unsat}, {vars(4, 0, 63) + each(64, "count <= 1 % x0 x1\n"), 2000, api.Sat}, {vars(32, 0, 1) + "reif x0 <= 10" + names[:0] + each(32, " 1 x%") + each(32, " 1 x%") + "\n", 2000, api.Sat}, {vars(2, 0, 63) + each(64, "table x0 : 0 : %\n"), 500, api.Sat}, {vars(3, 0, 63) + each(62, "count = 0 % x0\n") + "ne x0 x1 0\nne x0 x1 1\n", 500, api.Sat},
	} {
		m := read(t, c.m)
		v, log := ways()[0].proved(t, c.m, c.fuel, nil)
		if v.Kind != c.want || v.Kind != api.Unsat && v.Kind != api.None && !model.Solution(m, v.Values) {
			t.Errorf("P22.2: row %d: %+v, want %d", i, v, c.want)
		}
		if big.NewInt(int64(len(log))).Cmp(most(m, c.fuel)) > 0 {
			t.Errorf("P18.6: row %d: %d bytes, at most %v", i, len(log), most(m, c.fuel))
		}
	}
}

// TestLongPaths: splits that leave one value less each.
func TestLongPaths(t *testing.T) { // P18.2, P18.6, P22.2
	last := slices.Repeat([]int{-1}, 500)
	for i, c := range []struct {
		m    string
		fuel int
		want api.Verdict
	}{
		{vars(1, 0, 63), 127, api.Verdict{Kind: api.All, Count: 64}}, {vars(1, 0, 63), 126, api.Verdict{Kind: api.None}}, {vars(1, -1000000000, -999999937), 127, api.Verdict{Kind: api.All, Count: 64}}, {vars(6, 0, 63) + "lin >= 375 1 x0 1 x1 1 x2 1 x3 1 x4 1 x5\n", 100000, api.Verdict{Kind: api.All, Count: 84}}, {vars(4, 0, 63) + "alldiff x0 x1 x2 x3\nlin <= 7 1 x0 1 x1 1 x2 1 x3\n", 100000, api.Verdict{Kind: api.All, Count: 48}},
	} {
		v, log := ways()[1].proved(t, c.m, c.fuel, last)
		if !same(v, c.want) || big.NewInt(int64(len(log))).Cmp(most(read(t, c.m), c.fuel)) > 0 {
			t.Errorf("P18.2, P18.6: row %d: %+v, %d bytes, want %+v", i, v, len(log), c.want)
		}
	}
}

// TestNothingIsTouched: DOC.md's rules 3 and 6.
func TestNothingIsTouched(t *testing.T) { // P18.1
	const m = "var a 1 4\nvar b 1 4\nvar c 1 4\nalldiff a b c\nlin <= 6 1 a 1 b\nminimize 3 a -2 b 1 c\n"
	h := []int{5, 3, -8, 77, 78, 79}
	for _, w := range ways() {
		v, log, _ := w.do(m, 1000, h[:3])
		if !slices.Equal(h, []int{5, 3, -8, 77, 78, 79}) {
			t.Fatalf("rule 3: %v", h)
		}
		want := fmt.Sprint(v)
		other, _, _ := w.do(m, 1000, h[:3])
		for i := range v.Values {
			v.Values[i] = 99
		}
		_ = append(v.Values, 99)
		again, second, _ := w.do(m, 1000, h[:3])
		if fmt.Sprint(other) != want || fmt.Sprint(again) != want || second != log {
			t.Errorf("rules 3, 6: %s: %v, %v, want %s", w.name, other, again, want)
		}
		for _, none := range [][]int{nil, {}} {
			if v, log, _ := w.do(m, 1000, none); fmt.Sprint(v)+log != must(w.do(m, 1000, []int{0, 0})) {
				t.Errorf("rule 2: %s: %v", w.name, v)
			}
		}
	}
	var all sync.WaitGroup
	told := make([]string, 8)
	for i := range told {
		all.Go(func() { told[i] = must(solve.Solve(m, 1000, []int{i / 4})) })
	}
	all.Wait()
	for i := range told {
		if told[i] != must(solve.Solve(m, 1000, []int{i / 4})) {
			t.Errorf("rule 6: %d: %s", i, told[i])
		}
	}
}

func must(v api.Verdict, log string, err error) string {
	if err != nil {
		return err.Error()
	}
	return fmt.Sprint(v) + log
}
