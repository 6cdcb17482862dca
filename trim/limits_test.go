package trim_test

import (
	"fmt"
	"strconv"
	"strings"
	"sync"
	"testing"

	"hallmark/api"
	"hallmark/proof"
	"hallmark/solve"
	"hallmark/trim"
)

// each: n times what a form makes of 0, 1, ..
func each(n int, form string) string {
	var b strings.Builder
	for i := range n {
		b.WriteString(strings.ReplaceAll(form, "%", strconv.Itoa(i)))
	}
	return b.String()
}

// TestGreatestProblems: as much of each thing as a problem may have.
func TestGreatestProblems(t *testing.T) { // P19.2, P19.3, P19.5
	const far = api.MaxValue
	names := each(32, " x%")
	for i, c := range []struct {
		m    string
		fuel int
		want int
		cons string
	}{
		{vars(32, 0, 63), 33, api.Sat, "[]"}, {vars(32, 0, 63), 32, api.None, "[]"}, {vars(32, far-63, far) + "minimize" + each(32, " 1000000 x%") + each(32, " 1000000 x%") + "\n", 33, api.Best, "[]"}, {vars(32, -far, 63-far) + "minimize" + each(32, " -1000000 x%") + each(32, " -1000000 x%") + "\n", 200, api.Bounds, "[]"},
		{vars(32, 0, 30) + "alldiff" + names + "\n", 2, api.Unsat, "[0]"}, {vars(16, far-31, far) + "lin = 1000000000" + each(16, " 1000000 x%") + each(16, " -1000000 x%") + each(16, " -999999 x%") + each(16, " 1000000 x%") + "\n", 2000, api.Unsat, "[0]"},
		{vars(2, 0, 40) + "element x0 x1" + each(40, " %") + "\nlin <= 99 1 x0 1 x1\nne x0 x1 0\n", 5000, api.Unsat, "[0 2]"}, {vars(2, 0, 30) + "ne x0 x1 1\ntable x0 x1" + each(64, " : % %") + "\nne x1 x0 0\n", 5000, api.Unsat, "[1 2]"}, {vars(32, 0, 3) + "max x0" + names + names + "\nmin x1" + names + "\nlin <= 1 1 x0\nlin >= 2 1 x1\n", 100, api.Unsat, "[0 2 3]"}, {vars(4, 0, 63) + each(63, "count <= 1 % x0 x1\n") + "lin >= 999 1 x3\n", 2000, api.Unsat, "[63]"},
	} {
		v, log, err := solve.Solve(c.m, c.fuel, nil)
		if err != nil || v.Kind != c.want {
			t.Fatalf("row %d: %+v, %v", i, v, err)
		}
		if got := held(t, c.m, log, false); fmt.Sprint(got.cons) != c.cons {
			t.Errorf("P19.4: row %d: %v, want %s", i, got.cons, c.cons)
		}
	}
}

// TestOwners: constraints that lay no rows, one, and many; of each, one at a time,
// the only one that there is to lean on.
func TestOwners(t *testing.T) { // P19.4
	fillers := []string{"ne x0 x0 3\n", "lin >= 0 1 x0\n", "max x1 x1 x1 x1\n", "count <= 9 0 x0 x1\n", "table x0 : 0 : 1 : 2\n"}
	for i := range fillers {
		m := vars(2, 0, 2) + strings.Join(fillers[:i], "") + "lin >= 3 1 x0\n" + strings.Join(fillers[i:], "")
		v, log, err := solve.Solve(m, 1000, nil)
		if err != nil || v.Kind != api.Unsat {
			t.Fatalf("%q: %+v, %v", m, v, err)
		}
		if got := held(t, m, log, true); fmt.Sprint(got.cons) != fmt.Sprint([]int{i}) {
			t.Errorf("P19.4: %q: %v, want %d", m, got.cons, i)
		}
	}
}

// TestLongLogs: many lines of which few are needed, and many that are.
func TestLongLogs(t *testing.T) { // P19.2, P19.3, P19.5
	const huge = "123456789012345678901234567890123456789012345678901234567890"
	const n = 3000
	var idle, chain strings.Builder
	for i := range n {
		fmt.Fprintf(&idle, "rup 1 x1 >= 0 ; %d / del id %d / ", i%3+1, i+4)
		fmt.Fprintf(&chain, "pol %d 3 * 3 d / ", max(1, i+3))
	}
	idles := held(t, three, log(3, idle.String()+"rup >= 1 ; / UNSAT : "+strconv.Itoa(n+4)), true)
	if want := log(3, "rup >= 1 ; 1 3 / UNSAT : 4"); idles.log != want {
		t.Errorf("P19.3: %s", idles.log)
	}
	in := log(3, chain.String()+"pol "+strconv.Itoa(n+3)+" 1 + / UNSAT : "+strconv.Itoa(n+4))
	if chained := held(t, three, in, true); chained.log != in || fmt.Sprint(chained.cons) != "[0 2]" {
		t.Errorf("P19.3: %d lines, %v", len(proof.Lines(chained.log)), chained.cons)
	}
	for _, c := range []expect{
		{three, 3, "pol 2 / pol 1 " + huge + " * / pol 5 " + huge + " d 3 + / UNSAT : 6", "pol 1 " + huge + " * / pol 4 " + huge + " d 3 + / UNSAT : 5", "[0 2]"},
		{three, 3, "pol 2 / rup " + huge + " x1 >= " + huge + " ; / rup >= 1 ; 3 5 / UNSAT : 6", "rup " + huge + " x1 >= " + huge + " ; 1 / rup >= 1 ; 3 4 / UNSAT : 5", "[0 2]"},
	} {
		c.ask(t)
	}
}

// TestNothingIsTouched: DOC.md's rules 3 and 6.
func TestNothingIsTouched(t *testing.T) { // P19.5
	const m = "var a 1 3\nvar b 1 3\nvar c 1 3\nvar d 1 3\nne a b 0\nalldiff a b c d\n"
	_, log, err := solve.Solve(m, 1000, nil)
	if err != nil {
		t.Fatal(err)
	}
	told := func() string {
		cut, cons, err := trim.Trim(m, log)
		list, ok, fault := trim.Core(m)
		out := fmt.Sprint(cut, cons, err, list, ok, fault)
		for _, one := range [][]int{cons, list} { // whoever asked may do with it what he likes
			clear(one[:cap(one)])
		}
		return out
	}
	want := told()
	if again := told(); again != want {
		t.Errorf("rules 3, 6: %s, want %s", again, want)
	}
	var all sync.WaitGroup
	others := make([]string, 8)
	for i := range others {
		all.Go(func() { others[i] = told() })
	}
	all.Wait()
	for _, other := range others {
		if other != want {
			t.Errorf("rule 6: %s, want %s", other, want)
		}
	}
}
