package audit_test

import (
	"fmt"
	"iter"
	"math"
	"slices"
	"strings"
	"testing"

	"hallmark/api"
	"hallmark/audit"
	"hallmark/model"
)

// every: a problem that has a constraint of each kind, some solutions, and a goal.
func every() api.Model {
	return withGoal(with(sized(4, 4, 4),
		lin(api.Le, 6, 1, 1, 1),
		api.Con{Kind: api.Ne, X: 0, Y: 1, K: 3},
		api.Con{Kind: api.AllDiff, Xs: []int{0, 1}},
		api.Con{Kind: api.Element, X: 0, Y: 1, Table: []int{1, 2, 1, 0}},
		api.Con{Kind: api.Max, Y: 2, Xs: []int{2, 2}},
		api.Con{Kind: api.Min, Y: 0, Xs: []int{0, 0}},
		api.Con{Kind: api.Reif, X: 1, Terms: terms(1, 0, 1), K: 4},
		api.Con{Kind: api.Table, Xs: []int{0, 2}, Rows: [][]int{{0, 0}, {0, 3}, {2, 1}, {2, 2}}},
		api.Con{Kind: api.Count, Xs: []int{0, 1, 2}, V: 9, Op: api.Le, K: 1},
	), 1, 0, -1)
}

func TestSolutionsInOrder(t *testing.T) { // P21.1: the last variable's value rises first
	m := sized(2, 1, 3)
	m.Vars[2].Lo, m.Vars[2].Hi = -1, 1
	if got := fmt.Sprint(all(m)); got != "[[0 0 -1] [0 0 0] [0 0 1] [1 0 -1] [1 0 0] [1 0 1]]" {
		t.Errorf("P21.1: %s", got)
	}
	if got := fmt.Sprint(all(every())); got != "[[0 1 0] [0 1 3] [2 1 1] [2 1 2]]" {
		t.Errorf("P21.1: %s", got)
	}
	answers(t, every(), 4, api.Verdict{Kind: api.Best, Worth: -3, Values: []int{0, 1, 3}})
	for kind := range every().Cons { // none of them but the empty ones is there for nothing
		less := every()
		less.Cons = slices.Delete(less.Cons, kind, kind+1)
		if got, want := all(less), counted(less); !sameLists(got, want) {
			t.Errorf("P21.1: without %d: %v, want %v", kind, got, want)
		}
	}
}

func TestSolutionsByChance(t *testing.T) { // P21.1, P21.2, P21.3, P21.5
	s := newSource(1)
	kinds := map[int]int{}
	for range 4000 {
		m := s.problem()
		want := counted(m)
		if got := all(m); !sameLists(got, want) {
			t.Fatalf("P21.1: Solutions(%+v) gives %v, want %v", m, got, want)
		}
		verdict := told(m, want)
		kinds[verdict.Kind]++
		if answers(t, m, len(want), verdict); t.Failed() {
			return
		}
	}
	if min(kinds[api.Unsat], kinds[api.Sat], kinds[api.Best]) < 500 {
		t.Errorf("%v: too few to tell", kinds)
	}
}

func TestFirstOfTheLeast(t *testing.T) { // P21.3: of several that are worth as little the first one
	answers(t, withGoal(sized(3, 3), 1, 1), 9, api.Verdict{Kind: api.Best, Values: []int{0, 0}})
	answers(t, withGoal(with(sized(3, 3), lin(api.Ge, 2, 1, 1)), 1, 1), 6, api.Verdict{Kind: api.Best, Worth: 2, Values: []int{0, 2}})
	answers(t, withGoal(sized(3, 3), 0, -1), 9, api.Verdict{Kind: api.Best, Worth: -2, Values: []int{0, 2}})
	answers(t, withGoal(with(sized(3, 3), lin(api.Ge, 9, 1, 1)), 1, 1), 0, api.Verdict{Kind: api.Unsat})
	m := withGoal(sized(2, 2), 1) // a goal whose terms come to nothing
	m.Goal = append(m.Goal, api.Term{C: -1})
	answers(t, m, 4, api.Verdict{Kind: api.Best, Values: []int{0, 0}})
	answers(t, withGoal(with(sized(3, 3), lin(api.Le, 3, 1, 1)), 5, 0), 8, api.Verdict{Kind: api.Best, Values: []int{0, 0}})
}

func TestAllLeavesTheGoalAside(t *testing.T) { // P21.3
	for _, m := range []api.Model{pair(), withGoal(pair(), 1, 1)} {
		if v, ok := audit.All(m); !ok || !sameVerdict(v, api.Verdict{Kind: api.All, Count: 6}) {
			t.Errorf("P21.3: %+v, %v", v, ok)
		}
	}
}

func TestWhatCanBeCounted(t *testing.T) { // P21.1, P21.2, P21.3: MaxCount, and the next product that there is
	full := sized(50, 50, 40)
	answers(t, full, api.MaxCount, api.Verdict{Kind: api.Sat, Values: []int{0, 0, 0}})
	if last := all(full)[api.MaxCount-1]; !slices.Equal(last, []int{49, 49, 39}) {
		t.Errorf("P21.1: the last one is %v", last)
	}
	answers(t, withGoal(full, -1, -1, -1), api.MaxCount, api.Verdict{Kind: api.Best, Worth: -137, Values: []int{49, 49, 39}})
	refuses(t, sized(53, 51, 37)) // 100011
	refuses(t, withGoal(sized(53, 51, 37), 1))
	refuses(t, with(sized(53, 51, 37), lin(api.Ge, 1000, 1))) // no matter how few solutions there are
	ones := slices.Repeat([]int{1}, api.MaxVars)
	answers(t, sized(ones...), 1, api.Verdict{Kind: api.Sat, Values: make([]int, api.MaxVars)})
	twos := slices.Repeat([]int{2}, 16)
	answers(t, sized(slices.Concat(twos, ones[16:])...), 1<<16, api.Verdict{Kind: api.Sat, Values: make([]int, api.MaxVars)})
	refuses(t, sized(slices.Concat(twos, ones[17:], []int{2})...))
	refuses(t, sized(slices.Repeat([]int{64}, api.MaxVars)...)) // 2^192
	refuses(t, sized(slices.Repeat([]int{1}, api.MaxVars+1)...))
	answers(t, sized(64), 64, api.Verdict{Kind: api.Sat, Values: []int{0}})
	refuses(t, sized(65))
}

func TestFarValues(t *testing.T) { // P21.1, P21.3: at the ends of what may be
	m := sized(1, 1)
	m.Vars[0].Lo, m.Vars[0].Hi = -api.MaxValue, -api.MaxValue+1
	m.Vars[1].Lo, m.Vars[1].Hi = api.MaxValue-1, api.MaxValue
	if got := fmt.Sprint(all(m)); got != "[[-1000000000 999999999] [-1000000000 1000000000] [-999999999 999999999] [-999999999 1000000000]]" {
		t.Errorf("P21.1: %s", got)
	}
	m.HasGoal, m.Goal = true, slices.Repeat([]api.Term{{C: api.MaxCoef, X: 0}}, api.MaxTerms)
	answers(t, m, 4, api.Verdict{Kind: api.Best, Worth: -api.MaxTerms * api.MaxCoef * api.MaxValue, Values: []int{-api.MaxValue, api.MaxValue - 1}})
	m.Goal = slices.Repeat([]api.Term{{C: api.MaxCoef, X: 1}}, api.MaxTerms)
	answers(t, m, 4, api.Verdict{Kind: api.Best, Worth: api.MaxTerms * api.MaxCoef * (api.MaxValue - 1), Values: []int{-api.MaxValue, api.MaxValue - 1}})
}

func TestWrongProblems(t *testing.T) { // P21.1, P21.2, P21.3: of each error of layer 4 one
	spoiled := func(spoil func(m *api.Model)) api.Model {
		m := every()
		spoil(&m)
		if _, e := model.Check(m); e == api.OK {
			t.Fatalf("%+v is right", m)
		}
		return m
	}
	for _, spoil := range []func(m *api.Model){
		func(m *api.Model) { *m = api.Model{} },
		func(m *api.Model) { m.Vars = nil },
		func(m *api.Model) { m.Vars[1].Name = m.Vars[0].Name },
		func(m *api.Model) { m.Vars[1].Name = "9a" },
		func(m *api.Model) { m.Vars[2].Hi = -1 },
		func(m *api.Model) { m.Vars[2].Lo, m.Vars[2].Hi = math.MinInt, math.MaxInt },
		func(m *api.Model) { m.Vars[2].Lo, m.Vars[2].Hi = math.MaxInt, math.MaxInt },
		func(m *api.Model) { m.Cons[0].Kind = 0 },
		func(m *api.Model) { m.Cons[0].Kind = api.Count + 1 },
		func(m *api.Model) { m.Cons[0].Op = 0 },
		func(m *api.Model) { m.Cons[1].X = 3 },
		func(m *api.Model) { m.Cons[1].Y = -1 },
		func(m *api.Model) { m.Cons[0].Terms[0].C = 0 },
		func(m *api.Model) { m.Cons[1].K = api.MaxValue + 1 },
		func(m *api.Model) { m.Cons[2].Xs = nil },
		func(m *api.Model) { m.Cons[7].Rows[3] = []int{1} },
		func(m *api.Model) { m.Cons[2].V = 1 },
		func(m *api.Model) { m.Cons = slices.Repeat(m.Cons[:1], api.MaxCons+1) },
		func(m *api.Model) { m.HasGoal = false },
		func(m *api.Model) { m.Goal = nil },
		func(m *api.Model) { m.Goal[0].X = 3 },
		func(m *api.Model) { m.Goal[0].C = api.MaxCoef + 1 },
	} {
		refuses(t, spoiled(spoil))
	}
}

func TestLeftAtAnyPoint(t *testing.T) { // P21.1, rule 7
	m := pair()
	seq := audit.Solutions(m)
	want := all(m)
	for n := range len(want) + 1 {
		var got [][]int
		for values := range seq {
			if len(got) == n {
				break
			}
			got = append(got, values)
		}
		if !sameLists(got, want[:n]) {
			t.Errorf("left behind %d: %v", n, got)
		}
	}
	calls := 0
	seq(func([]int) bool { calls++; return calls < 3 })
	if calls != 3 {
		t.Errorf("called %d times, though 3 were enough", calls)
	}
	next, stop := iter.Pull(seq)
	next()
	stop()
}

func TestGoneThroughWithin(t *testing.T) { // P21.1, rule 7: each going through stands by itself
	seq := audit.Solutions(pair())
	var got []string
	for a := range seq {
		for b := range seq {
			got = append(got, fmt.Sprint(a, b))
		}
	}
	var want []string
	for _, a := range all(pair()) {
		for _, b := range all(pair()) {
			want = append(want, fmt.Sprint(a, b))
		}
	}
	if !slices.Equal(got, want) {
		t.Errorf("P21.1: %v", got)
	}
}

// spare: a list of the same things with room behind it, that is filled with others.
func spare[T any](list []T, fill T) []T {
	out := append(make([]T, 0, len(list)+3), list...)
	for i := len(list); i < cap(out); i++ {
		out[:cap(out)][i] = fill
	}
	return out
}

// roomy: every, with spare room behind all of its lists.
func roomy() api.Model {
	m := every()
	for i := range m.Cons {
		c := &m.Cons[i]
		for j := range c.Rows {
			c.Rows[j] = spare(c.Rows[j], 77)
		}
		c.Terms, c.Xs, c.Table, c.Rows = spare(c.Terms, api.Term{C: 77}), spare(c.Xs, 77), spare(c.Table, 77), spare(c.Rows, []int{77})
	}
	m.Vars, m.Cons, m.Goal = spare(m.Vars, api.Var{Hi: 77}), spare(m.Cons, api.Con{Kind: 77}), spare(m.Goal, api.Term{C: 77})
	return m
}

// whole tells all of a problem, the spare room of its lists too.
func whole(m api.Model) string {
	var out strings.Builder
	fmt.Fprint(&out, m.Vars[:cap(m.Vars)], m.HasGoal, m.Goal[:cap(m.Goal)])
	for _, c := range m.Cons[:cap(m.Cons)] {
		fmt.Fprint(&out, c.Kind, c.Op, c.K, c.V, c.X, c.Y, c.Terms[:cap(c.Terms)], c.Xs[:cap(c.Xs)], c.Table[:cap(c.Table)])
		for _, r := range c.Rows[:cap(c.Rows)] {
			fmt.Fprint(&out, r[:cap(r)])
		}
	}
	return out.String()
}

func TestNothingHandedInIsChanged(t *testing.T) { // rule 3
	m := roomy()
	before := whole(m)
	for range audit.Solutions(m) {
		if after := whole(m); after != before {
			t.Fatalf("changed on the way: %s, was %s", after, before)
		}
	}
	audit.Count(m)
	audit.Answer(m)
	audit.All(m)
	m.HasGoal, m.Goal = false, m.Goal[:0]
	audit.Answer(m)
	m.HasGoal, m.Goal = true, m.Goal[:2]
	if after := whole(m); after != before {
		t.Errorf("changed: %s, was %s", after, before)
	}
}

// scramble makes another problem of one, in the same lists.
func scramble(m api.Model) {
	for i := range m.Cons {
		c := &m.Cons[i]
		for j := range c.Rows {
			clear(c.Rows[j])
		}
		clear(c.Terms)
		clear(c.Xs)
		clear(c.Table)
		clear(c.Rows)
	}
	clear(m.Vars)
	clear(m.Cons)
	clear(m.Goal)
}

func TestNothingHandedInIsKept(t *testing.T) { // P21.1, rules 3, 7
	want := all(every())
	m := every()
	seq := audit.Solutions(m)
	scramble(m)
	if got := slices.Collect(seq); !sameLists(got, want) {
		t.Errorf("P21.1: %v behind a change", got)
	}
	m = every()
	var got [][]int
	for values := range audit.Solutions(m) {
		got = append(got, values)
		scramble(m)
	}
	if !sameLists(got, want) {
		t.Errorf("P21.1: %v, changed on the way", got)
	}
	wide := sized(3)
	seq = audit.Solutions(wide)
	wide.Vars[0].Hi = 1
	if n := len(slices.Collect(seq)); n != 3 {
		t.Errorf("P21.1: %d behind other bounds", n)
	}
	small := sized(65) // what can't be counted stays so
	seq = audit.Solutions(small)
	small.Vars[0].Hi = 1
	for range seq {
		t.Fatal("P21.1: solutions of what couldn't be counted")
	}
}

func TestEachIsNewMemory(t *testing.T) { // P21.1, rule 3
	seq := audit.Solutions(pair())
	var got, lists [][]int
	for values := range seq {
		got = append(got, slices.Clone(values))
		lists = append(lists, values)
		for i := range values[:cap(values)] {
			values[:cap(values)][i] = -9
		}
	}
	if want := all(pair()); !sameLists(got, want) {
		t.Errorf("P21.1: %v, want %v", got, want)
	}
	for i, list := range lists {
		whole := list[:cap(list)]
		for j := range whole {
			whole[j] = i
		}
	}
	for i, list := range lists {
		if !slices.Equal(list, []int{i, i}) {
			t.Errorf("P21.1: list %d shares memory", i)
		}
	}
	for _, m := range []api.Model{pair(), withGoal(pair(), -1)} {
		a, _ := audit.Answer(m)
		want := slices.Clone(a.Values)
		b, _ := audit.Answer(m)
		a.Values[0] = -9
		if c, _ := audit.Answer(m); !slices.Equal(b.Values, want) || !slices.Equal(c.Values, want) {
			t.Errorf("P21.3: %v, %v, want %v", b.Values, c.Values, want)
		}
	}
}
