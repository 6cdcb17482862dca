package solve_test

import (
	"fmt"
	"math/big"
	"strings"
	"testing"

	"hallmark/api"
	"hallmark/dom"
	"hallmark/engine"
)

// tally: of each kind of constraints how often it pruned, took a value out
// between two that stay, and failed, behind the goal's bound at place 0.
type tally struct{ pruned, holes, failed [api.Count + 1]int }

// watch adds what a problem's constraints do at its first node, and below some splits.
func (n *tally) watch(s source, m api.Model, below int) {
	d, e := dom.New(m), engine.New(m)
	if below > 0 {
		e.Below(s.about(m, m.Goal))
	}
	kind := func(place int) int {
		if place == len(m.Cons) {
			return 0
		}
		return m.Cons[place].Kind
	}
	for range 3 {
		ahead := d.Copy()
		causes, _, how := e.Run(d, 10000)
		for _, c := range causes {
			n.pruned[kind(c.Con)]++
			if c.Cut.Kind == api.Not && ahead.Lo(c.Cut.X) < c.Cut.V && c.Cut.V < ahead.Hi(c.Cut.X) {
				n.holes[kind(c.Con)]++
			}
		}
		if how == api.Failed {
			n.failed[kind(e.Cause().Con)]++
			return
		}
		if x := s.Intn(d.Vars()); d.Size(x) > 1 {
			d.Cut(api.Cut{Kind: api.Not, X: x, V: d.Values(x)[d.Size(x)/2]})
		}
	}
}

// TestTheCheckerFollows: whatever the problem, the fuel and the branching.
func TestTheCheckerFollows(t *testing.T) { // P18.4, P22.2
	s := newSource(3)
	var n tally
	kinds, lines := map[int]int{}, map[string]int{}
	for range 2500 {
		m, h := s.problem(5, 6, 6), s.script()
		fuel := []int{enough(t, m), s.Intn(100)}[s.Intn(2)]
		for _, w := range ways() {
			want, steps := walked(m, fuel, h, w.all)
			if len(steps.found) > 300 {
				continue
			}
			v, log := w.proved(t, written(t, m), fuel, h)
			if kinds[v.Kind]++; !same(v, want) {
				t.Fatalf("P18.3: %s of %q, %d, %v: %+v, want %+v", w.name, written(t, m), fuel, h, v, want)
			}
			for line := range strings.Lines(log) {
				lines[strings.Fields(line)[0]]++
			}
		}
		n.watch(s, m, len(m.Goal))
	}
	for kind := api.None; kind <= api.All; kind++ {
		if kinds[kind] < 50 {
			t.Errorf("kind %d: only %d times", kind, kinds[kind])
		}
	}
	for kind := range n.pruned {
		if n.pruned[kind] < 100 || n.failed[kind] < 20 {
			t.Errorf("kind %d: only %d prunings, %d failings", kind, n.pruned[kind], n.failed[kind])
		}
	}
	for _, kind := range []int{api.Ne, api.AllDiff, api.Element, api.Table, api.Count} {
		if n.holes[kind] < 20 {
			t.Errorf("kind %d: only %d between two values", kind, n.holes[kind])
		}
	}
	for _, word := range []string{"rup", "pol", "soli", "solx", "del"} {
		if lines[word] < 500 {
			t.Errorf("%s: only %d lines", word, lines[word])
		}
	}
}

// pairs: problems of two kinds of constraints each, with values missing in
// between: what one takes out another one must see as gone.
func (s source) pairs(one, other int) api.Model {
	m := s.problem(4, 7, 0)
	for len(m.Vars) < 2 {
		m = s.problem(4, 7, 0)
	}
	for x, v := range m.Vars {
		if v.Hi-v.Lo > 2 && s.Intn(2) == 0 { // x isn't that
			m.Cons = append(m.Cons, api.Con{Kind: api.Count, Op: api.Le, Xs: []int{x}, V: v.Lo + 1 + s.Intn(v.Hi-v.Lo-1)})
		}
	}
	for _, kind := range []int{one, other, one} {
		m.Cons = append(m.Cons, s.con(kind, m))
	}
	return m
}

func TestKindByKind(t *testing.T) { // P18.4, P22.2
	s := newSource(4)
	for one := api.Lin; one <= api.Count; one++ {
		for other := api.Lin; other <= api.Count; other++ {
			for range 12 {
				m, h := s.pairs(one, other), s.script()
				for _, w := range ways() {
					if want, steps := walked(m, enough(t, m), h, w.all); len(steps.found) < 300 {
						if v, _ := w.proved(t, written(t, m), enough(t, m), h); !same(v, want) {
							t.Fatalf("P18.3: %s of %q, %v: %+v, want %+v", w.name, written(t, m), h, v, want)
						}
					}
				}
			}
		}
	}
}

// TestCrowds: intervals of an AllDiff, whatever stands twice in it, and values
// that one variable alone has.
func TestCrowds(t *testing.T) { // P18.4, P22.2
	for i, c := range []struct {
		m     string
		count int
	}{
		{"var x 1 2\nvar y 1 2\nvar z 1 4\nvar w 4 4\nalldiff x y z w\n", 2}, {"var x 1 2\nvar y 1 2\nvar z 1 2\nalldiff x y z\n", 0}, {"var x 4 4\nalldiff x x\n", 0}, {"var x 1 2\nvar y 1 3\nalldiff x x y\n", 0}, {"var x 1 2\nalldiff x x\n", 0},
		{"var x 1 1\nvar y 3 3\nvar z 3 3\nvar w 3 3\nalldiff x y z w\n", 0}, {"var a 0 5\nvar b 5 9\nvar c 9 9\nvar d 0 0\nalldiff a b c d\nlin >= 10 1 a 1 b\n", 9}, {"var a 0 0\nvar b 1 1\nvar c 2 2\nvar d 0 3\nalldiff a b c d\n", 1},
		{"var a 0 3\nvar b 0 3\nvar c 0 3\nvar d 0 3\nalldiff a b c d\nlin <= 1 1 a 1 b\nne c d -1\n", 2}, {"var a -1 1\nvar b -1 1\nvar c -1 1\nalldiff a b\nalldiff b c\nalldiff a c\ncount <= 0 0 a b\n", 2}, {"var a 0 3\nvar b 0 3\nalldiff a b a\nalldiff b b\n", 0},
		{"var a 1 3\nvar b 1 3\nvar c 1 3\nvar d 1 3\nvar e 1 3\nvar f 1 3\nvar y 1 4\nvar z 1 4\nalldiff a b c y\nalldiff d e f z\n", 36}, // like intervals of two
		{"var a 1 3\nvar b 1 3\nvar c 1 3\nvar d 1 6\nvar e 1 6\nvar f 1 6\nvar y 1 8\nalldiff a b c d e f y\n", 72},                       // intervals with one least value
		{"var a 4 6\nvar b 4 6\nvar c 4 6\nvar d 1 6\nvar e 1 6\nvar f 1 6\nvar y 1 8\nalldiff a b c d e f y\n", 72},                       // with one greatest value
	} {
		m := read(t, c.m)
		if count, _ := counted(m); count != c.count {
			t.Fatalf("row %d: %d solutions", i, count)
		}
		for fuel := range 60 {
			ways()[fuel%2].proved(t, c.m, fuel, nil)
		}
		for _, h := range scripts() {
			if v, _ := ways()[1].proved(t, c.m, enough(t, m), h); v.Kind != api.All || v.Count != c.count {
				t.Errorf("P18.3: row %d: %+v, want %d", i, v, c.count)
			}
		}
	}
}

// TestComesAgain: values go missing in between, come back, and go again, and
// some constraints lean on that each time.
func TestComesAgain(t *testing.T) { // P18.4, P22.2
	const some = "var b 0 1\nvar a 0 3\nvar x 0 3\nvar y 0 3\nvar w 0 3\nne x a 0\nne y a 0\n"
	for _, p := range []string{
		"var z 1 1\nvar x 0 2\nvar y 0 2\nvar w 0 2\nne x z 0\nne y z 0\ncount >= 1 1 x y w\n", "var z 1 1\nvar x 0 2\nvar y 0 2\nvar w 0 2\nne x z 0\nne y z 0\ncount = 1 1 w x y\n", "var z 1 1\nvar x 0 2\nvar y 0 2\nne x z 0\nne y z 0\ncount >= 1 1 x y\n", "var z 1 1\nvar x 0 2\nvar y 0 2\nne x z 0\nne y z 0\ncount = 1 1 x y\n",
		some + "count >= 1 1 x y w\ncount <= 0 1 w\n", some + "count = 1 1 x y w\ncount >= 1 2 x y w\n", some + "count >= 2 2 x y w\n",
		some + "table x y : 1 1 : 1 2 : 2 1 : 2 2 : 1 1\n", some + "table x w : 1 1 : 2 1 : 1 2 : 0 0 : 3 3\ntable y w : 1 1 : 2 1 : 1 2 : 2 2\n",
		some + "alldiff x y w\nalldiff x b w\n", "var a 1 2\nvar b 1 2\nvar c 1 2\nvar d 1 2\nvar y 1 3\nvar z 1 3\nalldiff a b y\nalldiff c d z\n",
	} {
		m := read(t, p)
		count, _ := counted(m)
		for _, h := range scripts() {
			ways()[0].proved(t, p, enough(t, m), h)
			if v, _ := ways()[1].proved(t, p, enough(t, m), h); v.Kind != api.All || v.Count != count {
				t.Errorf("P18.3: All of %q, %v: %+v, want %d", p, h, v, count)
			}
		}
	}
	s := newSource(12)
	for range 300 {
		m := read(t, some)
		for range 1 + s.Intn(2) {
			m.Cons = append(m.Cons, s.con(api.Table+s.Intn(2), m))
		}
		m.HasGoal, m.Goal = s.Intn(2) == 0, nil
		if m.HasGoal {
			m.Goal = s.terms(m)
		}
		for _, w := range ways() {
			w.proved(t, written(t, m), 1000, s.script())
		}
	}
}

// most: P18.6's bound.
func most(m api.Model, fuel int) *big.Int {
	sum, wide, product := sizes(m)
	long, rows := 1, 0
	for _, c := range m.Cons {
		long = max(long, len(c.Terms), len(c.Xs), len(c.Table), len(c.Rows))
		rows += len(c.Rows)
	}
	k := product.Mul(product, big.NewInt(2))
	if f := big.NewInt(int64(max(fuel, 0))); f.Cmp(k) < 0 {
		k = f
	}
	z, r, v := sum-len(m.Vars), long, wide
	w := 80*(z+2)*((r+3)*(z+r+3)+r*(v+4)) + 20*(z+sum+rows) + 400
	return k.Mul(k.Add(k, big.NewInt(2)), big.NewInt(int64(w)))
}

func TestHowLong(t *testing.T) { // P18.6
	s := newSource(5)
	for range 800 {
		m, h := s.problem(6, 9, 8), s.script()
		for _, fuel := range []int{-1, s.Intn(10), s.Intn(100), s.Intn(3000)} {
			for _, w := range ways() {
				if _, log, _ := w.do(written(t, m), fuel, h); big.NewInt(int64(len(log))).Cmp(most(m, fuel)) > 0 {
					t.Errorf("P18.6: %s of %q, %d, %v: %d bytes, at most %v", w.name, written(t, m), fuel, h, len(log), most(m, fuel))
				}
			}
		}
	}
}

// TestLongWhereMuchIsTold: many rows of tables that fall by values in between,
// intervals of many places, long paths.
func TestLongWhereMuchIsTold(t *testing.T) { // P18.6
	var vars, even strings.Builder
	for x := range 8 {
		fmt.Fprintf(&vars, "var x%d 0 11\n", x)
		fmt.Fprintf(&even, "table x%d : 0 : 2 : 4 : 6 : 8 : 10\n", x)
	}
	table := "table x0 x1 x2"
	for r := range 64 {
		table += fmt.Sprintf(" : %d %d %d", r%12, r/5%12, r*7%12)
	}
	different := "alldiff x0 x1 x2 x3 x4 x5 x6 x7\n"
	for i, p := range []string{
		vars.String(), vars.String() + even.String() + table + "\n", vars.String() + different, vars.String() + even.String() + different + table + "\nminimize -1 x0 2 x3 1 x7\n",
		vars.String() + different + "lin <= 30 1 x0 1 x1 1 x2 1 x3 1 x4 1 x5 1 x6 1 x7\n", vars.String() + "count >= 4 4 x0 x1 x2 x3 x4 x5 x6 x7\n" + even.String() + "count <= 5 4 x0 x1 x2 x3 x4 x5 x6 x7\n",
	} {
		m := read(t, p)
		for _, fuel := range []int{0, 1, 2, 5, 30, 200, 2000} {
			for _, h := range [][]int{nil, {11, -3, 40, 17}} {
				for _, w := range ways() {
					if _, log, _ := w.do(p, fuel, h); big.NewInt(int64(len(log))).Cmp(most(m, fuel)) > 0 {
						t.Errorf("P18.6: row %d: %s, %d, %v: %d bytes, at most %v", i, w.name, fuel, h, len(log), most(m, fuel))
					}
				}
			}
		}
	}
}
