package solve_test

import (
	"math"
	"slices"
	"testing"

	"hallmark/api"
	"hallmark/model"
	"hallmark/solve"
)

// solved: Solve's verdict with P22.3's fuel.
func solved(t testing.TB, m api.Model, h []int) api.Verdict {
	t.Helper()
	v, _, err := solve.Solve(written(t, m), enough(t, m), h)
	if err != nil {
		t.Fatalf("P18.1: %+v: %v", m, err)
	}
	return v
}

// gone: how many solutions All tells with P22.3's fuel.
func gone(t testing.TB, m api.Model, h []int) int {
	t.Helper()
	v, _, err := solve.All(written(t, m), enough(t, m), h)
	if err != nil || v.Kind != api.All || v.Values != nil || v.Worth != 0 || v.Low != 0 {
		t.Fatalf("P18.3: All of %+v: %+v, %v", m, v, err)
	}
	return v.Count
}

// TestDecisive: with enough fuel there is an answer, the one that counting
// tells, whatever the branching.
func TestDecisive(t *testing.T) { // P22.3, P22.4, P18.3
	s := newSource(6)
	kinds := map[int]int{}
	for range 1000 {
		m := s.problem(4, 6, 6)
		p := written(t, m)
		count, least := counted(m)
		want := [2]int{api.Sat, 0}
		switch {
		case count == 0:
			want = [2]int{api.Unsat, 0}
		case m.HasGoal:
			want = [2]int{api.Best, least}
		}
		kinds[want[0]]++
		for _, h := range [][]int{nil, s.script()} {
			for _, fuel := range []int{enough(t, m), enough(t, m) + 1, math.MaxInt} {
				v, _, err := solve.Solve(p, fuel, h)
				if err != nil || kindAndWorth(v) != want || v.Low != 0 || v.Count != 0 {
					t.Fatalf("P22.3, P22.4: %q, %v: %+v, %v, want %v", p, h, v, err, want)
				}
				if fine := model.Solution(m, v.Values) && model.Worth(m, v.Values) == v.Worth; fine != (count > 0) || count == 0 && v.Values != nil {
					t.Fatalf("P18.3: %q, %v: %+v", p, h, v)
				}
			}
			if n := gone(t, m, h); n != count {
				t.Fatalf("P22.4: %q, %v: %d solutions, want %d", p, h, n, count)
			}
		}
	}
	if min(kinds[api.Unsat], kinds[api.Sat], kinds[api.Best]) < 100 {
		t.Errorf("%v: too few to tell", kinds)
	}
}

// TestNoOrderShows: constraints in another order, some of them twice.
func TestNoOrderShows(t *testing.T) { // P22.10
	s := newSource(7)
	kinds := map[int]int{}
	for range 1000 {
		m := s.problem(4, 6, 6)
		other := model.Copy(m)
		for _, c := range m.Cons {
			for range s.Intn(6) / 4 {
				other.Cons = append(other.Cons, c)
			}
		}
		s.Shuffle(len(other.Cons), func(i, j int) { other.Cons[i], other.Cons[j] = other.Cons[j], other.Cons[i] })
		a, b := solved(t, m, s.script()), solved(t, other, s.script())
		if kinds[a.Kind]++; kindAndWorth(a) != kindAndWorth(b) {
			t.Fatalf("P22.10: %+v: %+v; %+v: %+v", m, a, other, b)
		}
		if a, b := gone(t, m, s.script()), gone(t, other, s.script()); a != b {
			t.Fatalf("P22.10: %+v: %d solutions; %+v: %d", m, a, other, b)
		}
	}
	if min(kinds[api.Unsat], kinds[api.Sat], kinds[api.Best]) < 100 {
		t.Errorf("%v: too few to tell", kinds)
	}
}

// TestMoreAsksMore: with a constraint more there are no new answers.
func TestMoreAsksMore(t *testing.T) { // P22.11
	s := newSource(8)
	changed := map[int]int{}
	for range 1000 {
		m := s.problem(4, 6, 5)
		more := model.Copy(m)
		more.Cons = slices.Insert(more.Cons, s.Intn(len(m.Cons)+1), s.con(1+s.Intn(api.Count), m))
		a, b := solved(t, m, s.script()), solved(t, more, s.script())
		if kindAndWorth(a) != kindAndWorth(b) {
			changed[a.Kind]++
		}
		switch {
		case a.Kind == api.Unsat && b.Kind != api.Unsat, b.Kind != api.Unsat && (b.Kind != a.Kind || b.Worth < a.Worth):
			t.Fatalf("P22.11: %+v: %+v; %+v: %+v", m, a, more, b)
		}
		if a, b := gone(t, m, s.script()), gone(t, more, s.script()); b > a {
			t.Fatalf("P22.11: %+v: %d solutions; %+v: %d", m, a, more, b)
		}
	}
	if min(changed[api.Sat], changed[api.Best]) < 50 {
		t.Errorf("%v: too few to tell", changed)
	}
}

// parts: a problem with x at most v - 1, and with x at least v, by a constraint
// or by its bounds.
func parts(m api.Model, x, v int, byBounds bool) [2]api.Model {
	lower, upper := model.Copy(m), model.Copy(m)
	if byBounds {
		lower.Vars[x].Hi, upper.Vars[x].Lo = v-1, v
		return [2]api.Model{lower, upper}
	}
	only := []api.Term{{C: 1, X: x}}
	lower.Cons = append(lower.Cons, api.Con{Kind: api.Lin, Op: api.Le, Terms: only, K: v - 1})
	upper.Cons = append(upper.Cons, api.Con{Kind: api.Lin, Op: api.Ge, Terms: only, K: v})
	return [2]api.Model{lower, upper}
}

func TestParts(t *testing.T) { // P22.13
	s := newSource(9)
	kinds := map[int]int{}
	for range 1000 {
		m := s.problem(4, 6, 5)
		x := s.Intn(len(m.Vars))
		if m.Vars[x].Lo == m.Vars[x].Hi {
			continue
		}
		v := m.Vars[x].Lo + 1 + s.Intn(m.Vars[x].Hi-m.Vars[x].Lo)
		both := parts(m, x, v, s.Intn(2) == 0)
		count, answers := 0, []api.Verdict{}
		for _, part := range both {
			count += gone(t, part, s.script())
			if a := solved(t, part, s.script()); a.Kind != api.Unsat {
				answers = append(answers, a)
			}
		}
		if n := gone(t, m, s.script()); n != count {
			t.Fatalf("P22.13: %+v: %d solutions, at %d of %d: %d", m, n, v, x, count)
		}
		want := api.Verdict{Kind: api.Unsat}
		if len(answers) > 0 {
			want = slices.MinFunc(answers, func(a, b api.Verdict) int { return a.Worth - b.Worth })
		}
		a := solved(t, m, s.script())
		if kinds[a.Kind]++; kindAndWorth(a) != kindAndWorth(want) {
			t.Fatalf("P22.13: %+v: %+v, at %d of %d: %+v", m, a, v, x, answers)
		}
	}
	if min(kinds[api.Unsat], kinds[api.Sat], kinds[api.Best]) < 100 {
		t.Errorf("%v: too few to tell", kinds)
	}
}

// TestMoreFuel: nothing that was claimed is taken back.
func TestMoreFuel(t *testing.T) { // P18.5
	s := newSource(10)
	passed := map[[2]int]int{}
	for range 500 {
		m, h := s.problem(4, 5, 5), s.script()
		p := written(t, m)
		for _, w := range ways() {
			var last api.Verdict
			for fuel := 0; fuel < 400; fuel += 1 + s.Intn(1+fuel/4) {
				v, _, _ := w.do(p, fuel, h)
				passed[[2]int{last.Kind, v.Kind}]++
				kept := true
				switch last.Kind {
				case api.Unsat, api.Sat, api.Best, api.All:
					kept = same(v, last)
				case api.Bounds:
					kept = (v.Kind == api.Bounds || v.Kind == api.Best) && v.Worth <= last.Worth
				}
				if !kept {
					t.Fatalf("P18.5: %s of %q, %v: with %d %+v, ahead of it %+v", w.name, p, h, fuel, v, last)
				}
				last = v
			}
		}
	}
	for _, kinds := range [][2]int{{api.Unsat, api.Unsat}, {api.Sat, api.Sat}, {api.Best, api.Best}, {api.All, api.All}, {api.Bounds, api.Bounds}, {api.Bounds, api.Best}, {api.None, api.Best}, {api.None, api.Bounds}, {api.None, api.All}} {
		if passed[kinds] < 30 {
			t.Errorf("from %d to %d: only %d times", kinds[0], kinds[1], passed[kinds])
		}
	}
}
