package audit_test

import (
	"fmt"
	"math/rand"
	"slices"
	"strings"
	"testing"

	"hallmark/api"
	"hallmark/audit"
	"hallmark/model"
)

// source: problems and logs by chance, the same ones in each run.
type source struct{ *rand.Rand }

func newSource(seed int64) source { return source{rand.New(rand.NewSource(seed))} }

// one: one of several.
func one[T any](s source, list ...T) T { return list[s.Intn(len(list))] }

// some: so many things.
func some[T any](n int, make func() T) []T {
	var all []T
	for range n {
		all = append(all, make())
	}
	return all
}

// sized: a problem of variables with so many values each, from 0 on.
func sized(sizes ...int) api.Model {
	var m api.Model
	for x, n := range sizes {
		m.Vars = append(m.Vars, api.Var{Name: fmt.Sprint("x", x), Hi: n - 1})
	}
	return m
}

// lin: a sum of the variables' values times these, in their order; 0: not this one.
func lin(op, k int, coefs ...int) api.Con {
	return api.Con{Kind: api.Lin, Op: op, K: k, Terms: terms(coefs...)}
}

func terms(coefs ...int) []api.Term {
	var list []api.Term
	for x, c := range coefs {
		if c != 0 {
			list = append(list, api.Term{C: c, X: x})
		}
	}
	return list
}

func with(m api.Model, cons ...api.Con) api.Model {
	m.Cons = slices.Concat(m.Cons, cons)
	return m
}

func withGoal(m api.Model, coefs ...int) api.Model {
	m.HasGoal, m.Goal = true, terms(coefs...)
	return m
}

// number is small, and may be below 0.
func (s source) number() int { return s.Intn(7) - 2 }

func (s source) con(vars int) api.Con {
	c := api.Con{Kind: api.Lin + s.Intn(api.Count)}
	place := func() int { return s.Intn(vars) }
	sum := func() []api.Term {
		return some(1+s.Intn(4), func() api.Term { return api.Term{C: one(s, -3, -2, -1, 1, 2, 3), X: place()} })
	}
	op, few := api.Le+s.Intn(3), 1+s.Intn(3)
	switch c.Kind {
	case api.Lin:
		c.Op, c.Terms, c.K = op, sum(), s.number()
	case api.Ne:
		c.X, c.Y, c.K = place(), place(), s.number()
	case api.AllDiff:
		c.Xs = some(few, place)
	case api.Element:
		c.X, c.Y, c.Table = place(), place(), some(few, s.number)
	case api.Max, api.Min:
		c.Y, c.Xs = place(), some(few, place)
	case api.Reif:
		c.X, c.Terms, c.K = place(), sum(), s.number()
	case api.Table:
		c.Xs = some(few, place)
		c.Rows = some(1+s.Intn(5), func() []int { return some(few, s.number) })
	case api.Count:
		c.Op, c.Xs, c.V, c.K = op, some(1+s.Intn(4), place), s.number(), s.number()
	}
	return c
}

// problem: a right one of few values. Half of its constraints hold of some
// values that they know, so that not all problems are without a solution.
func (s source) problem() api.Model {
	var m api.Model
	for x := range 1 + s.Intn(4) {
		lo := s.Intn(5) - 3
		m.Vars = append(m.Vars, api.Var{Name: fmt.Sprint("x", x), Lo: lo, Hi: lo + s.Intn(5)})
	}
	var known []int
	for _, v := range m.Vars {
		known = append(known, v.Lo+s.Intn(v.Hi-v.Lo+1))
	}
	for range s.Intn(5) {
		c := s.con(len(m.Vars))
		for range s.Intn(10) {
			if !model.Holds(c, known) {
				c = s.con(len(m.Vars))
			}
		}
		m.Cons = append(m.Cons, c)
	}
	if s.Intn(2) == 0 {
		m.HasGoal, m.Goal = true, some(1+s.Intn(4), func() api.Term { return api.Term{C: one(s, -3, -1, 1, 2), X: s.Intn(len(m.Vars))} })
	}
	return m
}

// known: of each kind of step some lines, with how many ids a del among them names.
func known() []struct {
	line       string
	kind, gone int
} {
	return []struct {
		line       string
		kind, gone int
	}{
		{"pseudo-Boolean proof version 2.0", api.StepHead, 0},
		{"f 0", api.StepCount, 0},
		{"f 123456789012345678901234567890", api.StepCount, 0},
		{"pol 3 4 + 2 d x5 w s ~x1 3 * +", api.StepPol, 0},
		{"pol 1", api.StepPol, 0},
		{"rup >= 0 ;", api.StepRup, 0},
		{"rup 2 x1 -3 ~x2 >= 0 ; 4 2 9", api.StepRup, 0},
		{"soli", api.StepSoli, 0},
		{"soli x1 ~x2", api.StepSoli, 0},
		{"del id 3", api.StepDel, 1},
		{"\tdel  id 3 4 5 6 ", api.StepDel, 4},
		{"del id 123456789012345678901234567890 1", api.StepDel, 2},
		{"del id 7 7 7", api.StepDel, 3},
		{"", api.StepNote, 0},
		{" \t", api.StepNote, 0},
		{"*", api.StepNote, 0},
		{"* del id 3 \xff\r", api.StepNote, 0},
		{"output NONE", api.StepOutput, 0},
		{"conclusion NONE", api.StepEnds, 0},
		{"conclusion UNSAT : 4", api.StepEnds, 0},
		{"conclusion SAT", api.StepEnds, 0},
		{"conclusion BOUNDS 3 : 17 3", api.StepEnds, 0},
		{"conclusion ALL 3 : 4", api.StepEnds, 0},
		{"end pseudo-Boolean proof", api.StepLast, 0},
		{"solx", api.StepSolx, 0},
		{"solx ~x3", api.StepSolx, 0},
		{"e 3 1 x1 >= 1 ;", api.StepSame, 0},
	}
}

// line: one that is a step's.
func (s source) line() string { return one(s, known()...).line }

// wrong: lines that are no step's, by their errors.
func wrong() map[string]api.Errno {
	return map[string]api.Errno{
		"x": api.ErrProofWord, "*x": api.ErrProofWord, "\r": api.ErrProofWord, "\xff": api.ErrProofWord, "pol d": api.ErrProofWord, "conclusion SAT x1": api.ErrProofWord, "output": api.ErrProofEnd,
		"pol": api.ErrProofEnd, "del id": api.ErrProofEnd, "rup 1 x1 >= 1": api.ErrProofEnd, "conclusion ALL 3": api.ErrProofEnd,
		"pol 0": api.ErrProofNumber, "f -1": api.ErrProofNumber, "f 3\r": api.ErrProofNumber, "del id 0": api.ErrProofNumber, "soli 1": api.ErrProofNumber, "e x": api.ErrProofNumber, "solx x1073741825": api.ErrProofNumber,
	}
}

// all: what Solutions gives.
func all(m api.Model) [][]int { return slices.Collect(audit.Solutions(m)) }

func sameLists(a, b [][]int) bool { return slices.EqualFunc(a, b, slices.Equal[[]int]) }

func sameVerdict(a, b api.Verdict) bool {
	values := slices.Equal(a.Values, b.Values)
	a.Values, b.Values = nil, nil
	return values && fmt.Sprint(a) == fmt.Sprint(b)
}

// answers asks for what Answer and All tell of a problem that can be counted.
func answers(t *testing.T, m api.Model, n int, want api.Verdict) {
	t.Helper()
	if v, ok := audit.Answer(m); !ok || !sameVerdict(v, want) {
		t.Errorf("P21.3: Answer(%+v) = %+v, %v; want %+v", m, v, ok, want)
	}
	if v, ok := audit.All(m); !ok || !sameVerdict(v, api.Verdict{Kind: api.All, Count: n}) {
		t.Errorf("P21.3: All(%+v) = %+v, %v; want %d", m, v, ok, n)
	}
	if got, ok := audit.Count(m); !ok || got != n {
		t.Errorf("P21.2: Count(%+v) = %d, %v; want %d", m, got, ok, n)
	}
}

// refuses asks that a problem can't be counted.
func refuses(t *testing.T, m api.Model) {
	t.Helper()
	if audit.Solutions(m) == nil {
		t.Fatalf("P21.1: Solutions(%.200s) is nil", fmt.Sprint(m))
	}
	for v := range audit.Solutions(m) {
		t.Fatalf("P21.1: Solutions(%.200s) gives %v", fmt.Sprint(m), v)
	}
	if n, ok := audit.Count(m); n != 0 || ok {
		t.Errorf("P21.2: Count(%.200s) = %d, %v", fmt.Sprint(m), n, ok)
	}
	if v, ok := audit.Answer(m); !sameVerdict(v, api.Verdict{}) || ok {
		t.Errorf("P21.3: Answer(%.200s) = %+v, %v", fmt.Sprint(m), v, ok)
	}
	if v, ok := audit.All(m); !sameVerdict(v, api.Verdict{}) || ok {
		t.Errorf("P21.3: All(%.200s) = %+v, %v", fmt.Sprint(m), v, ok)
	}
}

// weighs asks for a log's weight.
func weighs(t *testing.T, log string, want api.Weight) {
	t.Helper()
	if w, err := audit.Weigh(log); err != nil || w != want {
		t.Errorf("P21.4: Weigh(%.300q) = %+v, %v; want %+v", log, w, err, want)
	}
}

// fails asks for a log's fault, and that nothing is told beside it.
func fails(t *testing.T, log string, line int, e api.Errno) {
	t.Helper()
	w, err := audit.Weigh(log)
	if f, ok := err.(*api.Fault); !ok || *f != (api.Fault{In: api.InLog, Line: line, Err: e}) || w != (api.Weight{}) {
		t.Errorf("P21.4: Weigh(%.300q) = %+v, %v; want %d at %d", log, w, err, e, line)
	}
}

// joined: lines, each with a line feed behind it.
func joined(lines ...string) string {
	if len(lines) == 0 {
		return ""
	}
	return strings.Join(lines, "\n") + "\n"
}
