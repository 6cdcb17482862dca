package model_test

import (
	"math"
	"slices"
	"strings"
	"testing"

	"hallmark/api"
	"hallmark/model"
)

// expect tells where Check of a bent problem answers otherwise.
func expect(t *testing.T, what string, m api.Model, at int, e api.Errno) {
	t.Helper()
	if gotAt, got := model.Check(m); gotAt != at || got != e {
		t.Errorf("%s: Check answers %d, %d, want %d, %d", what, gotAt, got, at, e)
	}
}

func TestNames(t *testing.T) { // P4.1
	named := func(name string) api.Model { return api.Model{Vars: []api.Var{{Name: name}}} }
	const letters = "abcdefghijklmnopqrstuvwxyzABCDEFGHIJKLMNOPQRSTUVWXYZ_"
	for b := range 256 {
		s := string([]byte{byte(b)})
		e := api.ErrModelName
		if strings.Contains(letters, s) {
			e = api.OK
		}
		expect(t, "a first byte", named(s), 0, e)
		if strings.Contains("0123456789", s) {
			e = api.OK
		}
		expect(t, "a second byte", named("a"+s), 0, e)
		expect(t, "a last byte", named("_"+strings.Repeat("7", 14)+s), 0, e)
	}
	for name, e := range map[string]api.Errno{
		"": api.ErrModelName, "sixteen_bytes_16": api.OK, "seventeen_byte_17": api.ErrModelName, "9a": api.ErrModelName, "_9": api.OK,
		"é": api.ErrModelName, "aé": api.ErrModelName, "a b": api.ErrModelName, strings.Repeat("a", 1<<20): api.ErrModelName,
	} {
		expect(t, "a name", named(name), 0, e)
	}
}

// fields: what each kind has, by the words of P4.2, and how to put something right into each field.
var fields = []struct {
	name string
	has  []int
	put  func(c *api.Con)
}{
	{"Op", []int{api.Lin, api.Count}, func(c *api.Con) { c.Op = api.Ge }},
	{"Terms", []int{api.Lin, api.Reif}, func(c *api.Con) { c.Terms = []api.Term{{C: 1, X: 1}} }},
	{"K", []int{api.Lin, api.Ne, api.Reif, api.Count}, func(c *api.Con) { c.K = -1 }},
	{"V", []int{api.Count}, func(c *api.Con) { c.V = -1 }},
	{"X", []int{api.Ne, api.Element, api.Reif}, func(c *api.Con) { c.X = 1 }},
	{"Y", []int{api.Ne, api.Element, api.Max, api.Min}, func(c *api.Con) { c.Y = 1 }},
	{"Xs", []int{api.AllDiff, api.Max, api.Min, api.Table, api.Count}, func(c *api.Con) { c.Xs = []int{1, 0} }},
	{"Table", []int{api.Element}, func(c *api.Con) { c.Table = []int{-1} }},
	{"Rows", []int{api.Table}, func(c *api.Con) { c.Rows = [][]int{{0, 0}} }},
}

func TestFields(t *testing.T) { // P4.2
	for kind := api.Lin; kind <= api.Count; kind++ {
		for _, f := range fields {
			c, at, e := one()[kind], 2, api.ErrModelField
			if slices.Contains(f.has, kind) {
				at, e = 0, api.OK
			}
			f.put(&c)
			expect(t, f.name, two(c), at, e)
		}
	}
}

func TestEmptyListIsZero(t *testing.T) { // P4.3: a field that its kind hasn't
	for kind, c := range one() {
		if kind == 0 {
			continue
		}
		for _, l := range []struct {
			there bool
			put   func()
		}{
			{len(c.Terms) > 0, func() { c.Terms = []api.Term{} }}, {len(c.Xs) > 0, func() { c.Xs = []int{} }},
			{len(c.Table) > 0, func() { c.Table = []int{} }}, {len(c.Rows) > 0, func() { c.Rows = [][]int{} }},
		} {
			if !l.there {
				l.put()
			}
		}
		expect(t, "empty lists", two(c), 0, api.OK)
	}
	m := two()
	m.Goal = []api.Term{}
	expect(t, "an empty goal", m, 0, api.OK)
}

func TestVariables(t *testing.T) { // P4.3, 1 and 2
	const most = api.MaxValue
	expect(t, "nothing", api.Model{}, 0, api.ErrModelVars)
	expect(t, "constraints alone", api.Model{Cons: make([]api.Con, 65)}, 0, api.ErrModelVars)
	var m api.Model
	for i := range 32 {
		m.Vars = append(m.Vars, api.Var{Name: "v" + strings.Repeat("_", i/4) + string(rune('a'+i%4))})
	}
	expect(t, "32 variables", m, 0, api.OK)
	m.Vars[31].Name = m.Vars[17].Name
	expect(t, "the last has one's name", m, 31, api.ErrModelName)
	m.Vars = append(m.Vars, api.Var{Name: "one_more"})
	expect(t, "33 variables", m, 0, api.ErrModelVars)

	for _, b := range []struct {
		lo, hi int
		e      api.Errno
	}{
		{0, 0, api.OK}, {0, 63, api.OK}, {-63, 0, api.OK}, {-1, 62, api.OK}, {most, most, api.OK}, {-most, -most, api.OK}, {most - 63, most, api.OK}, {-most, 63 - most, api.OK},
		{0, 64, api.ErrModelBounds}, {-64, 0, api.ErrModelBounds}, {1, 0, api.ErrModelBounds}, {most, -most, api.ErrModelBounds}, {-most, most, api.ErrModelBounds},
		{most, most + 1, api.ErrModelBounds}, {most + 1, most + 1, api.ErrModelBounds}, {-most - 1, -most, api.ErrModelBounds}, {-most - 1, -most - 1, api.ErrModelBounds},
		{math.MinInt, math.MaxInt, api.ErrModelBounds}, {math.MaxInt, math.MinInt, api.ErrModelBounds}, {math.MinInt, math.MinInt, api.ErrModelBounds}, {math.MaxInt, math.MaxInt, api.ErrModelBounds},
	} {
		m := two()
		m.Vars[1].Lo, m.Vars[1].Hi = b.lo, b.hi
		at := 1
		if b.e == api.OK {
			at = 0
		}
		expect(t, "bounds", m, at, b.e)
	}

	m = two()
	m.Vars[0].Hi, m.Vars[1].Name = -1, "9"
	expect(t, "the first one's bounds", m, 0, api.ErrModelBounds)
	m.Vars[0].Hi, m.Vars[1].Hi = 0, 100
	expect(t, "a name ahead of bounds", m, 1, api.ErrModelName)
	m.Vars[1].Name = "x"
	expect(t, "a name twice ahead of bounds", m, 1, api.ErrModelName)
	m.Vars[1].Name, m.Cons = "X", make([]api.Con, 65)
	expect(t, "bounds ahead of constraints", m, 1, api.ErrModelBounds)
	m.Vars[1].Hi = 0
	expect(t, "65 constraints ahead of their kinds", m, 2, api.ErrModelCons)
	m.Cons = m.Cons[:64]
	expect(t, "64 constraints", m, 2, api.ErrModelKind)
	for i := range m.Cons {
		m.Cons[i] = one()[api.Ne]
	}
	expect(t, "64 right constraints", m, 0, api.OK)
	m.Cons[63].Y = 2
	expect(t, "the last constraint", m, 65, api.ErrModelVar)
}

// bend: a fault, the kind of the constraint that it is put into, and its error.
type bend struct {
	what string
	kind int
	put  func(c *api.Con)
	e    api.Errno
}

func many[T any](n int, one T) []T { return slices.Repeat([]T{one}, n) }

func bends() []bend {
	const more = api.MaxValue + 1
	return []bend{
		{"no kind", 0, func(c *api.Con) { c.Kind = 0 }, api.ErrModelKind},
		{"a kind below", 0, func(c *api.Con) { c.Kind = -1 }, api.ErrModelKind},
		{"a kind beyond", 0, func(c *api.Con) { c.Kind = 10 }, api.ErrModelKind},
		{"the least kind", 0, func(c *api.Con) { c.Kind = math.MinInt }, api.ErrModelKind},
		{"the greatest kind", 0, func(c *api.Con) { c.Kind = math.MaxInt }, api.ErrModelKind},
		{"no operator", api.Lin, func(c *api.Con) { c.Op = 0 }, api.ErrModelKind},
		{"an operator beyond", api.Lin, func(c *api.Con) { c.Op = 4 }, api.ErrModelKind},
		{"an operator below", api.Count, func(c *api.Con) { c.Op = -1 }, api.ErrModelKind},
		{"a count's operator", api.Count, func(c *api.Con) { c.Op = 4 }, api.ErrModelKind},
		{"Op", api.Reif, func(c *api.Con) { c.Op = 4 }, api.ErrModelField},
		{"V", api.Lin, func(c *api.Con) { c.V = more }, api.ErrModelField},
		{"X", api.Table, func(c *api.Con) { c.X = 9 }, api.ErrModelField},
		{"Y", api.Reif, func(c *api.Con) { c.Y = -1 }, api.ErrModelField},
		{"K", api.Element, func(c *api.Con) { c.K = more }, api.ErrModelField},
		{"Xs", api.Lin, func(c *api.Con) { c.Xs = []int{9} }, api.ErrModelField},
		{"Terms", api.Count, func(c *api.Con) { c.Terms = many(65, api.Term{}) }, api.ErrModelField},
		{"Table", api.Ne, func(c *api.Con) { c.Table = []int{1} }, api.ErrModelField},
		{"Rows", api.AllDiff, func(c *api.Con) { c.Rows = [][]int{nil} }, api.ErrModelField},
		{"no terms", api.Lin, func(c *api.Con) { c.Terms = nil }, api.ErrModelMany},
		{"65 terms", api.Lin, func(c *api.Con) { c.Terms = many(65, api.Term{C: 1}) }, api.ErrModelMany},
		{"no terms of a Reif", api.Reif, func(c *api.Con) { c.Terms = []api.Term{} }, api.ErrModelMany},
		{"65 terms of a Reif", api.Reif, func(c *api.Con) { c.Terms = many(65, api.Term{C: 1}) }, api.ErrModelMany},
		{"no numbers", api.Element, func(c *api.Con) { c.Table = nil }, api.ErrModelMany},
		{"65 numbers", api.Element, func(c *api.Con) { c.Table = many(65, 0) }, api.ErrModelMany},
		{"nothing to differ", api.AllDiff, func(c *api.Con) { c.Xs = nil }, api.ErrModelMany},
		{"65 that differ", api.AllDiff, func(c *api.Con) { c.Xs = many(65, 0) }, api.ErrModelMany},
		{"a greatest of nothing", api.Max, func(c *api.Con) { c.Xs = nil }, api.ErrModelMany},
		{"a greatest of 65", api.Max, func(c *api.Con) { c.Xs = many(65, 0) }, api.ErrModelMany},
		{"a least of nothing", api.Min, func(c *api.Con) { c.Xs = nil }, api.ErrModelMany},
		{"a least of 65", api.Min, func(c *api.Con) { c.Xs = many(65, 0) }, api.ErrModelMany},
		{"nothing to count", api.Count, func(c *api.Con) { c.Xs = nil }, api.ErrModelMany},
		{"65 to count", api.Count, func(c *api.Con) { c.Xs = many(65, 0) }, api.ErrModelMany},
		{"no rows", api.Table, func(c *api.Con) { c.Rows = nil }, api.ErrModelMany},
		{"65 rows", api.Table, func(c *api.Con) { c.Rows = many(65, []int{0, 0}) }, api.ErrModelMany},
		{"no columns", api.Table, func(c *api.Con) { c.Xs, c.Rows = nil, [][]int{{}} }, api.ErrModelMany},
		{"9 columns", api.Table, func(c *api.Con) { c.Xs, c.Rows = many(9, 0), [][]int{make([]int, 9)} }, api.ErrModelMany},
		{"a short row", api.Table, func(c *api.Con) { c.Rows = [][]int{{0, 1}, {0}} }, api.ErrModelMany},
		{"a long row", api.Table, func(c *api.Con) { c.Rows = [][]int{{0, 1, 2}, {0, 1}} }, api.ErrModelMany},
		{"a row of nothing", api.Table, func(c *api.Con) { c.Rows = [][]int{{0, 1}, nil} }, api.ErrModelMany},
		{"X beyond", api.Ne, func(c *api.Con) { c.X = 2 }, api.ErrModelVar},
		{"X below", api.Element, func(c *api.Con) { c.X = -1 }, api.ErrModelVar},
		{"a Reif's X", api.Reif, func(c *api.Con) { c.X = math.MaxInt }, api.ErrModelVar},
		{"Y beyond", api.Ne, func(c *api.Con) { c.Y = 2 }, api.ErrModelVar},
		{"Y below", api.Element, func(c *api.Con) { c.Y = math.MinInt }, api.ErrModelVar},
		{"a Max's Y", api.Max, func(c *api.Con) { c.Y = 2 }, api.ErrModelVar},
		{"a Min's Y", api.Min, func(c *api.Con) { c.Y = -1 }, api.ErrModelVar},
		{"a term's X", api.Lin, func(c *api.Con) { c.Terms[1].X = 2 }, api.ErrModelVar},
		{"a Reif's term's X", api.Reif, func(c *api.Con) { c.Terms[0].X = -1 }, api.ErrModelVar},
		{"one of Xs", api.AllDiff, func(c *api.Con) { c.Xs[1] = 2 }, api.ErrModelVar},
		{"one of a Max's Xs", api.Max, func(c *api.Con) { c.Xs[0] = -1 }, api.ErrModelVar},
		{"one of a Min's Xs", api.Min, func(c *api.Con) { c.Xs[1] = 2 }, api.ErrModelVar},
		{"one of a Table's Xs", api.Table, func(c *api.Con) { c.Xs[1] = 2 }, api.ErrModelVar},
		{"one of a Count's Xs", api.Count, func(c *api.Con) { c.Xs[2] = 2 }, api.ErrModelVar},
		{"C 0", api.Lin, func(c *api.Con) { c.Terms[1].C = 0 }, api.ErrModelCoef},
		{"C above", api.Lin, func(c *api.Con) { c.Terms[0].C = api.MaxCoef + 1 }, api.ErrModelCoef},
		{"C below", api.Lin, func(c *api.Con) { c.Terms[0].C = -api.MaxCoef - 1 }, api.ErrModelCoef},
		{"a Reif's C", api.Reif, func(c *api.Con) { c.Terms[1].C = math.MinInt }, api.ErrModelCoef},
		{"K above", api.Lin, func(c *api.Con) { c.K = more }, api.ErrModelNumber},
		{"K below", api.Ne, func(c *api.Con) { c.K = -more }, api.ErrModelNumber},
		{"a Reif's K", api.Reif, func(c *api.Con) { c.K = math.MaxInt }, api.ErrModelNumber},
		{"a Count's K", api.Count, func(c *api.Con) { c.K = math.MinInt }, api.ErrModelNumber},
		{"V above", api.Count, func(c *api.Con) { c.V = more }, api.ErrModelNumber},
		{"V below", api.Count, func(c *api.Con) { c.V = -more }, api.ErrModelNumber},
		{"a number above", api.Element, func(c *api.Con) { c.Table[1] = more }, api.ErrModelNumber},
		{"a number below", api.Element, func(c *api.Con) { c.Table[0] = -more }, api.ErrModelNumber},
		{"a row's number above", api.Table, func(c *api.Con) { c.Rows[1][1] = more }, api.ErrModelNumber},
		{"a row's number below", api.Table, func(c *api.Con) { c.Rows[0][0] = -more }, api.ErrModelNumber},
	}
}

func TestConstraints(t *testing.T) { // P4.3, 4; P4.4
	for _, b := range bends() {
		c := one()[max(b.kind, api.Lin)]
		b.put(&c)
		expect(t, b.what, two(c), 2, b.e)
		expect(t, b.what+", behind", two(one()[api.Ne], c, api.Con{}), 3, b.e)
		if model.Holds(c, []int{2, 2}) || model.Holds(c, []int{0, 1}) {
			t.Errorf("%s: it holds", b.what)
		}
		if model.Solution(two(c), []int{0, 1}) {
			t.Errorf("%s: a solution", b.what)
		}
	}
}

// TestFirstFault puts two faults into one constraint: the one that the chapter names first is told.
func TestFirstFault(t *testing.T) { // P4.3, 4
	for _, pair := range []bend{
		{"kind, field", api.Count, func(c *api.Con) { c.Op, c.X = 0, 1 }, api.ErrModelKind},
		{"kind, many", api.Lin, func(c *api.Con) { c.Op, c.Terms = 0, nil }, api.ErrModelKind},
		{"kind, variable", api.Lin, func(c *api.Con) { c.Op, c.Terms[0].X = 9, 9 }, api.ErrModelKind},
		{"field, many", api.Lin, func(c *api.Con) { c.Xs, c.Terms = []int{0}, nil }, api.ErrModelField},
		{"field, row", api.Table, func(c *api.Con) { c.K, c.Rows = 1, [][]int{{1}} }, api.ErrModelField},
		{"field, variable", api.Max, func(c *api.Con) { c.X, c.Y = 1, 9 }, api.ErrModelField},
		{"many, variable", api.Element, func(c *api.Con) { c.Table, c.X = nil, 9 }, api.ErrModelMany},
		{"row, variable", api.Table, func(c *api.Con) { c.Rows[1], c.Xs = nil, []int{8, 9} }, api.ErrModelMany},
		{"many, coefficient", api.Lin, func(c *api.Con) { c.Terms = make([]api.Term, 65) }, api.ErrModelMany},
		{"many, number", api.Count, func(c *api.Con) { c.Xs, c.V = nil, math.MaxInt }, api.ErrModelMany},
		{"variable, coefficient", api.Lin, func(c *api.Con) { c.Terms = []api.Term{{C: 0, X: 0}, {C: 1, X: 2}} }, api.ErrModelVar},
		{"variable, number", api.Table, func(c *api.Con) { c.Xs[1], c.Rows[0][0] = 2, math.MaxInt }, api.ErrModelVar},
		{"coefficient, number", api.Reif, func(c *api.Con) { c.Terms[1].C, c.K = 0, math.MaxInt }, api.ErrModelCoef},
	} {
		c := one()[pair.kind]
		pair.put(&c)
		expect(t, pair.what, two(c), 2, pair.e)
	}
	late, early := one()[api.Ne], one()[api.Ne]
	late.K, early.Kind = math.MaxInt, 0
	expect(t, "the first constraint", two(late, early), 2, api.ErrModelNumber)
}

func TestLimitsThatMayBe(t *testing.T) { // P4.3: at a limit
	const most = api.MaxValue
	for _, c := range []api.Con{
		{Kind: api.Lin, Op: api.Ge, K: most, Terms: many(64, api.Term{C: api.MaxCoef, X: 1})},
		{Kind: api.Lin, Op: api.Eq, K: -most, Terms: many(64, api.Term{C: -api.MaxCoef})},
		{Kind: api.Ne, X: 1, Y: 1, K: -most},
		{Kind: api.AllDiff, Xs: many(64, 1)},
		{Kind: api.AllDiff, Xs: []int{0}},
		{Kind: api.Element, X: 1, Y: 1, Table: many(64, -most)},
		{Kind: api.Element, Table: []int{most}},
		{Kind: api.Max, Y: 1, Xs: many(64, 1)},
		{Kind: api.Min, Xs: many(64, 0)},
		{Kind: api.Reif, X: 1, K: most, Terms: many(64, api.Term{C: -1, X: 1})},
		{Kind: api.Table, Xs: many(8, 1), Rows: many(64, many(8, most))},
		{Kind: api.Table, Xs: many(8, 1), Rows: [][]int{many(8, -most)}},
		{Kind: api.Count, Op: api.Le, Xs: many(64, 0), V: most, K: -most},
		{Kind: api.Count, Op: api.Ge, Xs: []int{1}, V: -most, K: most},
	} {
		expect(t, "at a limit", two(c), 0, api.OK)
	}
}

func TestGoals(t *testing.T) { // P4.3, 5
	c := one()[api.Ne]
	for _, g := range []struct {
		what string
		has  bool
		goal []api.Term
		e    api.Errno
	}{
		{"none", false, nil, api.OK}, {"one term", true, terms(1), api.OK}, {"64 terms", true, many(64, api.Term{C: -api.MaxCoef, X: 1}), api.OK},
		{"not set", false, terms(1), api.ErrModelField}, {"not set, of many", false, make([]api.Term, 65), api.ErrModelField},
		{"of nothing", true, nil, api.ErrModelMany}, {"65 terms", true, many(65, api.Term{C: 1}), api.ErrModelMany}, {"many, no variable", true, many(65, api.Term{X: -1}), api.ErrModelMany},
		{"a variable beyond", true, terms(1, 1, 1), api.ErrModelVar}, {"a variable below", true, []api.Term{{C: 1, X: -1}}, api.ErrModelVar},
		{"a variable behind a coefficient", true, []api.Term{{C: 0, X: 1}, {C: 1, X: 2}}, api.ErrModelVar},
		{"0 times", true, []api.Term{{C: 1, X: 1}, {C: 0, X: 1}}, api.ErrModelCoef}, {"too many times", true, terms(api.MaxCoef + 1), api.ErrModelCoef}, {"too few times", true, terms(math.MinInt), api.ErrModelCoef},
	} {
		m := two(c, c, c)
		m.HasGoal, m.Goal = g.has, g.goal
		at := 5
		if g.e == api.OK {
			at = 0
		}
		expect(t, g.what, m, at, g.e)
		m.Cons[1].K = math.MaxInt
		expect(t, g.what+", behind a constraint", m, 3, api.ErrModelNumber)
	}
}

func TestRandomProblemsAreRight(t *testing.T) { // P4.3: a variable may stand in a constraint more than once
	s := newSource()
	for range 2000 {
		expect(t, "a right problem", s.problem(), 0, api.OK)
	}
}
