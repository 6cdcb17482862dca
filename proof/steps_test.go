package proof_test

import (
	"fmt"
	"math/rand"
	"slices"
	"strings"
	"testing"

	"hallmark/api"
	"hallmark/proof"
)

// alike: a nil list is like an empty one.
func alike(a, b api.Step) bool { return plain(a) == plain(b) }

func plain(s api.Step) string {
	return fmt.Sprintf("%d %q %#v %#v %q %v %q %d %q %q", s.Kind, s.N, append([]api.Op{}, s.Ops...), append([]api.Piece{}, s.Row.Pieces...), s.Row.Degree, s.Lits, s.Ids, s.Ends, s.Low, s.High)
}

func reads(t *testing.T, line string, want api.Step) {
	t.Helper()
	if s, e := proof.Parse(line); e != api.OK || !alike(s, want) {
		t.Errorf("Parse(%.200q) = %+v, %d; want %+v", line, s, e, want)
	}
}

func fails(t *testing.T, want api.Errno, lines ...string) {
	t.Helper()
	for _, line := range lines {
		if s, e := proof.Parse(line); e != want || !alike(s, api.Step{}) {
			t.Errorf("Parse(%.200q) = %+v, %d; want %d", line, s, e, want)
		}
	}
}

func prints(t *testing.T, s api.Step, want string) {
	t.Helper()
	if line, e := proof.Print(s); e != api.OK || line != want {
		t.Errorf("Print(%+v) = %q, %d; want %q", s, line, e, want)
	}
}

func refuses(t *testing.T, steps ...api.Step) {
	t.Helper()
	for _, s := range steps {
		if line, e := proof.Print(s); e != api.ErrProofStep || line != "" {
			t.Errorf("Print(%+v) = %q, %d", s, line, e)
		}
	}
}

func pol(ops ...api.Op) api.Step { return api.Step{Kind: api.StepPol, Ops: ops} }

func row(id string) api.Op { return api.Op{Kind: api.OpRow, N: id} }

func lit(l int) api.Op { return api.Op{Kind: api.OpLit, L: l} }

func op(kind int) api.Op { return api.Op{Kind: kind} }

// one: 1 times a literal is at least 1.
func one(l int) api.Row { return api.Row{Pieces: []api.Piece{{C: "1", L: l}}, Degree: "1"} }

// known: of each of the chapter's lines some, with their steps.
func known() []struct {
	line string
	step api.Step
} {
	const long = "123456789012345678901234567890"
	ends := func(kind int, low, high string, ids ...string) api.Step {
		return api.Step{Kind: api.StepEnds, Ends: kind, Low: low, High: high, Ids: ids}
	}
	return []struct {
		line string
		step api.Step
	}{
		{"pseudo-Boolean proof version 2.0", api.Step{Kind: api.StepHead}},
		{"f 0", api.Step{Kind: api.StepCount, N: "0"}},
		{"f " + long, api.Step{Kind: api.StepCount, N: long}},
		{"pol 1", pol(row("1"))},
		{"pol ~x1073741824 " + long + " d +", pol(lit(-api.MaxLit), api.Op{Kind: api.OpDiv, N: long}, op(api.OpAdd))},
		{"pol x1073741824 x1073741824 w 9 * s", pol(lit(api.MaxLit), api.Op{Kind: api.OpWeaken, L: api.MaxLit}, api.Op{Kind: api.OpTimes, N: "9"}, op(api.OpSaturate))},
		{"rup >= 0 ;", api.Step{Kind: api.StepRup, Row: api.Row{Degree: "0"}}},
		{"rup 0 x1 -" + long + " x1 >= -7 ; " + long + " 1 1", api.Step{Kind: api.StepRup, Row: api.Row{Pieces: []api.Piece{{C: "0", L: 1}, {C: "-" + long, L: 1}}, Degree: "-7"}, Ids: []string{long, "1", "1"}}},
		{"e 9 >= " + long + " ;", api.Step{Kind: api.StepSame, Ids: []string{"9"}, Row: api.Row{Degree: long}}},
		{"e " + long + " 2 ~x3 5 x4 >= 6 ;", api.Step{Kind: api.StepSame, Ids: []string{long}, Row: api.Row{Pieces: []api.Piece{{C: "2", L: -3}, {C: "5", L: 4}}, Degree: "6"}}},
		{"soli", api.Step{Kind: api.StepSoli}},
		{"soli ~x3 x2 x2", api.Step{Kind: api.StepSoli, Lits: []int{-3, 2, 2}}},
		{"solx", api.Step{Kind: api.StepSolx}},
		{"solx x1", api.Step{Kind: api.StepSolx, Lits: []int{1}}},
		{"del id 3", api.Step{Kind: api.StepDel, Ids: []string{"3"}}},
		{"del id 3 " + long + " 3", api.Step{Kind: api.StepDel, Ids: []string{"3", long, "3"}}},
		{"*", api.Step{Kind: api.StepNote}},
		{"output NONE", api.Step{Kind: api.StepOutput}},
		{"conclusion NONE", ends(api.None, "", "")},
		{"conclusion UNSAT", ends(api.Unsat, "", "")},
		{"conclusion UNSAT : 4", ends(api.Unsat, "", "", "4")},
		{"conclusion SAT", ends(api.Sat, "", "")},
		{"conclusion BOUNDS -3 " + long, ends(api.Bounds, "-3", long)},
		{"conclusion BOUNDS 0 : 5 -1", ends(api.Bounds, "0", "-1", "5")},
		{"conclusion ALL 0 : 1", ends(api.All, "", "0", "1")},
		{"conclusion ALL " + long + " : " + long, ends(api.All, "", long, long)},
		{"end pseudo-Boolean proof", api.Step{Kind: api.StepLast}},
	}
}

// source: steps and lines by chance, the same in every run.
type source struct{ *rand.Rand }

func newSource() source { return source{rand.New(rand.NewSource(8))} }

func (s source) digits(least int) string {
	if s.Intn(8) == 0 {
		return fmt.Sprint(1+s.Intn(9)) + strings.Repeat(fmt.Sprint(s.Intn(10)), s.Intn(40))
	}
	return fmt.Sprint(least + s.Intn(20))
}

func (s source) number() string {
	if s.Intn(3) == 0 {
		return "-" + s.digits(1)
	}
	return s.digits(0)
}

func (s source) variable() int {
	if s.Intn(10) == 0 {
		return api.MaxLit - s.Intn(2)
	}
	return 1 + s.Intn(30)
}

func (s source) lit() int { return s.variable() * (1 - 2*s.Intn(2)) }

func some[T any](n int, one func() T) []T {
	var list []T
	for range n {
		list = append(list, one())
	}
	return list
}

func (s source) id() string { return s.digits(1) }

func (s source) op() api.Op {
	o := api.Op{Kind: 1 + s.Intn(api.OpWeaken)}
	switch o.Kind {
	case api.OpRow, api.OpTimes, api.OpDiv:
		o.N = s.id()
	case api.OpLit:
		o.L = s.lit()
	case api.OpWeaken:
		o.L = s.variable()
	}
	return o
}

func (s source) row() api.Row {
	return api.Row{Pieces: some(s.Intn(4), func() api.Piece { return api.Piece{C: s.number(), L: s.lit()} }), Degree: s.number()}
}

// step: one that has a line.
func (s source) step() api.Step {
	st := api.Step{Kind: 1 + s.Intn(api.StepSame)}
	switch st.Kind {
	case api.StepCount:
		st.N = s.digits(0)
	case api.StepPol:
		st.Ops = some(1+s.Intn(6), s.op)
	case api.StepRup:
		st.Row, st.Ids = s.row(), some(max(0, s.Intn(6)-2), s.id)
	case api.StepSame:
		st.Row, st.Ids = s.row(), some(1, s.id)
	case api.StepSoli, api.StepSolx:
		st.Lits = some(s.Intn(4), s.lit)
	case api.StepDel:
		st.Ids = some(1+s.Intn(3), s.id)
	case api.StepEnds:
		st.Ends = []int{api.None, api.Unsat, api.Sat, api.Bounds, api.All}[s.Intn(5)]
		switch st.Ends {
		case api.Unsat:
			st.Ids = some(s.Intn(2), s.id)
		case api.Bounds:
			st.Low, st.High, st.Ids = s.number(), s.number(), some(s.Intn(2), s.id)
		case api.All:
			st.High, st.Ids = s.digits(0), some(1, s.id)
		}
	}
	return st
}

// literal writes one.
func literal(l int) string { return strings.Replace(fmt.Sprint("x", l), "x-", "~x", 1) }

// written tells the words of a step that has a line, by the chapter's table.
func written(s api.Step) []string {
	words := func(format string, more ...[]string) []string {
		return slices.Concat(append([][]string{strings.Fields(format)}, more...)...)
	}
	var lits, sum, ops []string
	for _, l := range s.Lits {
		lits = append(lits, literal(l))
	}
	for _, p := range s.Row.Pieces {
		sum = append(sum, p.C, literal(p.L))
	}
	sum = append(sum, ">=", s.Row.Degree, ";")
	for _, o := range s.Ops {
		ops = append(ops, strings.Fields([]string{"", o.N, literal(o.L), "+", o.N + " *", o.N + " d", "s", literal(o.L) + " w"}[o.Kind])...)
	}
	var hint []string
	for _, id := range s.Ids {
		hint = []string{":", id}
	}
	switch s.Kind {
	case api.StepHead:
		return words("pseudo-Boolean proof version 2.0")
	case api.StepCount:
		return words("f " + s.N)
	case api.StepPol:
		return words("pol", ops)
	case api.StepRup:
		return words("rup", sum, s.Ids)
	case api.StepSame:
		return words("e", s.Ids, sum)
	case api.StepSoli:
		return words("soli", lits)
	case api.StepSolx:
		return words("solx", lits)
	case api.StepDel:
		return words("del id", s.Ids)
	case api.StepNote:
		return words("*")
	case api.StepOutput:
		return words("output NONE")
	case api.StepLast:
		return words("end pseudo-Boolean proof")
	}
	switch s.Ends {
	case api.None:
		return words("conclusion NONE")
	case api.Unsat:
		return words("conclusion UNSAT", hint)
	case api.Sat:
		return words("conclusion SAT")
	case api.Bounds:
		return words("conclusion BOUNDS "+s.Low, hint, []string{s.High})
	}
	return words("conclusion ALL "+s.High, hint)
}
