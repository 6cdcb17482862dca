package audit_test

import (
	"slices"
	"testing"

	"hallmark/api"
	"hallmark/audit"
	"hallmark/model"
	"hallmark/solve"
	"hallmark/text"
)

func TestSolutionsRise(t *testing.T) { // P21.5
	s := newSource(3)
	for range 2000 {
		m := s.problem()
		n := 0
		var last []int
		for values := range audit.Solutions(m) {
			if n++; !model.Solution(m, values) || n > 1 && slices.Compare(last, values) >= 0 {
				t.Fatalf("P21.5: %+v: %v behind %v", m, values, last)
			}
			last = values
		}
		if count, ok := audit.Count(m); !ok || count != n {
			t.Fatalf("P21.5: Count(%+v) = %d, %v; %d are given", m, count, ok, n)
		}
	}
}

func TestOneConstraintMore(t *testing.T) { // P21.5
	s := newSource(4)
	fewer := 0
	for range 2000 {
		m := s.problem()
		more := m
		more.Cons = slices.Insert(slices.Clone(m.Cons), s.Intn(len(m.Cons)+1), s.con(len(m.Vars)))
		ahead, behind := all(m), all(more)
		for _, values := range behind {
			if !slices.ContainsFunc(ahead, func(other []int) bool { return slices.Equal(values, other) }) {
				t.Fatalf("P21.5: %+v has the solution %v", more, values)
			}
		}
		if len(behind) > len(ahead) {
			t.Fatalf("P21.5: %d solutions, with a constraint more %d", len(ahead), len(behind))
		}
		if len(behind) < len(ahead) {
			fewer++
		}
	}
	if fewer < 200 {
		t.Errorf("%d: too few to tell", fewer)
	}
}

func TestNoOtherIsWorthLess(t *testing.T) { // P21.5
	s := newSource(5)
	goals := 0
	for range 2000 {
		m := s.problem()
		v, ok := audit.Answer(m)
		given := all(m)
		among := slices.IndexFunc(given, func(values []int) bool { return slices.Equal(values, v.Values) })
		if !ok || (v.Kind == api.Unsat) != (len(given) == 0) || v.Kind != api.Unsat && among < 0 || v.Worth != model.Worth(m, v.Values) || v.Low != 0 || v.Count != 0 {
			t.Fatalf("P21.5: Answer(%+v) = %+v, %v", m, v, ok)
		}
		if v.Kind != api.Best {
			continue
		}
		goals++
		for i, values := range given {
			if w := model.Worth(m, values); w < v.Worth || w == v.Worth && i < among {
				t.Fatalf("P21.5: Answer(%+v) = %+v, though there is %v", m, v, values)
			}
		}
	}
	if goals < 200 {
		t.Errorf("%d: too few to tell", goals)
	}
}

func TestOneLineMore(t *testing.T) { // P21.6
	s := newSource(6)
	for range 2000 {
		lines := some(s.Intn(12), s.line)
		a, err := audit.Weigh(joined(lines...))
		b, again := audit.Weigh(joined(slices.Insert(slices.Clone(lines), s.Intn(len(lines)+1), s.line())...))
		if err != nil || again != nil || b.Lines != a.Lines+1 {
			t.Fatalf("P21.6: %q: %+v, %v; with a line more %+v, %v", lines, a, err, b, again)
		}
		sum := 0
		for kind, n := range b.Kinds {
			if sum += n; n < a.Kinds[kind] {
				t.Fatalf("P21.6: %q: %+v; with a line more %+v", lines, a, b)
			}
		}
		if sum != b.Lines || b.Kinds[0] != 0 {
			t.Fatalf("P21.6: %+v", b)
		}
	}
}

// enough: the fuel of P22.3.
func enough(m api.Model) int {
	sum, product := 0, 1
	for _, v := range m.Vars {
		sum += v.Hi - v.Lo + 1
		product *= v.Hi - v.Lo + 1
	}
	return 2 * (len(m.Cons) + 2) * (1 + sum) * product
}

// TestSolverAnswersWhatCountingDoes: and its logs can be weighed.
func TestSolverAnswersWhatCountingDoes(t *testing.T) { // P22.4
	s := newSource(7)
	for range 400 {
		m := s.problem()
		p, e := text.Print(m)
		if e != api.OK {
			t.Fatal(e)
		}
		want, _ := audit.Answer(m)
		branching := some(s.Intn(5), s.number)
		v, log, err := solve.Solve(p, enough(m), branching)
		if err != nil || v.Kind != want.Kind || v.Worth != want.Worth {
			t.Fatalf("P22.4: %q, %v: Solve tells %+v, %v, counting %+v", p, branching, v, err, want)
		}
		want, _ = audit.All(m)
		n, logOfAll, err := solve.All(p, enough(m), branching)
		if err != nil || !sameVerdict(n, want) {
			t.Fatalf("P22.4: %q, %v: All tells %+v, %v, counting %+v", p, branching, n, err, want)
		}
		w, err := audit.Weigh(logOfAll)
		if err != nil || w.Kinds[api.StepSolx] != want.Count {
			t.Fatalf("P21.4: %q: %+v, %v, of %d solutions", logOfAll, w, err, want.Count)
		}
		if w, err := audit.Weigh(log); err != nil || w.Kinds[api.StepHead] != 1 || w.Kinds[api.StepLast] != 1 || w.Kinds[api.StepEnds] != 1 {
			t.Fatalf("P21.4: %q: %+v, %v", log, w, err)
		}
	}
}
