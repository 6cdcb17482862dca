package solve_test

import (
	"fmt"
	"testing"

	"hallmark/api"
	"hallmark/check"
	"hallmark/solve"
)

func ExampleSolve() {
	const m = "var x 0 3\nvar y 0 3\nlin >= 5 1 x 1 y\nminimize 1 x\n"
	v, log, err := solve.Solve(m, 1000, nil)
	fmt.Println(v.Kind == api.Best, v.Worth, v.Values, err)
	v, err = check.Check(m, log)
	fmt.Println(v.Kind == api.Best, v.Worth, v.Values, err)
	v, log, _ = solve.Solve(m, 0, nil)
	fmt.Print(v.Kind == api.None, "\n", log)
	// Output:
	// true 2 [2 3] <nil>
	// true 2 [2 3] <nil>
	// true
	// pseudo-Boolean proof version 2.0
	// f 5
	// output NONE
	// conclusion NONE
	// end pseudo-Boolean proof
}

func ExampleAll() {
	const m = "var x 0 1\nvar y 0 1\nalldiff x y\n"
	v, log, err := solve.All(m, 1000, []int{1})
	fmt.Println(v.Kind == api.All, v.Count, err)
	v, err = check.Check(m, log)
	fmt.Println(v.Kind == api.All, v.Count, err)
	// Output:
	// true 2 <nil>
	// true 2 <nil>
}

// scripts: none, and some.
func scripts() [][]int {
	return [][]int{nil, {}, {3, 1, 4, 1, 5, 9, 2, 6}, {-1, -2, -7}, {0, 0, 1}, {7}, {1 << 62, -1 << 63, 1<<63 - 1}}
}

// way: Solve or All.
type way struct {
	name string
	do   func(m string, fuel int, h []int) (api.Verdict, string, error)
	all  bool
}

func ways() [2]way { return [2]way{{"Solve", solve.Solve, false}, {"All", solve.All, true}} }

// proved tells the verdict of Solve, or of All, and asks that the checker takes the log with it.
func (w way) proved(t testing.TB, m string, fuel int, h []int) (api.Verdict, string) {
	t.Helper()
	v, log, err := w.do(m, fuel, h)
	if err != nil {
		t.Fatalf("P18.1: %s of %q, %d, %v: %v", w.name, m, fuel, h, err)
	}
	if c, err := check.Check(m, log); err != nil || !same(c, v) {
		t.Fatalf("P22.2: %s of %q, %d, %v: %+v, the checker: %+v, %v, of\n%s", w.name, m, fuel, h, v, c, err, log)
	}
	return v, log
}

// TestExamples: the chapter's.
func TestExamples(t *testing.T) { // P18.2, P18.3
	const three, best = "var x 0 1\nvar y 0 1\nvar z 0 1\nalldiff x y z\n", "var x 0 3\nvar y 0 3\nlin >= 5 1 x 1 y\nminimize 1 x\n"
	const alone, unlike = "var x 0 3\n", "var x 0 3\nvar y 1 1\nne x y 0\n"
	both := ways()
	first, all := both[0], both[1]
	for _, h := range scripts() {
		for i, c := range []struct {
			way  way
			m    string
			fuel int
			want api.Verdict
		}{
			{first, three, 100, api.Verdict{Kind: api.Unsat}}, {first, three, 101, api.Verdict{Kind: api.Unsat}}, {first, three, 1 << 60, api.Verdict{Kind: api.Unsat}},
			{first, best, 1000, api.Verdict{Kind: api.Best, Worth: 2, Values: []int{2, 3}}}, {first, best, 0, api.Verdict{Kind: api.None}},
			{first, alone, 7, api.Verdict{Kind: api.Sat, Values: []int{0}}}, {all, alone, 7, api.Verdict{Kind: api.All, Count: 4}}, {all, alone, 8, api.Verdict{Kind: api.All, Count: 4}}, {all, alone, 1 << 60, api.Verdict{Kind: api.All, Count: 4}}, {all, alone, 6, api.Verdict{Kind: api.None}},
			{all, unlike, 100, api.Verdict{Kind: api.All, Count: 3}},
		} {
			if v, _ := c.way.proved(t, c.m, c.fuel, h); !same(v, c.want) {
				t.Errorf("example %d, %v: %+v, want %+v", i, h, v, c.want)
			}
		}
	}
}
