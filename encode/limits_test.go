package encode_test

import (
	"fmt"
	"math"
	"slices"
	"strings"
	"testing"

	"hallmark/api"
	"hallmark/encode"
	"hallmark/model"
)

// wide: as many variables as there may be, each with as many values, from lo
// on, the next one's beginning step further on.
func wide(lo, step int) api.Model {
	var m api.Model
	for x := range api.MaxVars {
		m.Vars = append(m.Vars, api.Var{Name: fmt.Sprint("v", x), Lo: lo + x*step, Hi: lo + x*step + api.MaxDomain - 1})
	}
	return m
}

// everyPlace: MaxTerms places, of all variables twice.
func everyPlace() []int {
	list := make([]int, api.MaxTerms)
	for i := range list {
		list[i] = i % api.MaxVars
	}
	return list
}

func TestGreatestSum(t *testing.T) { // P7.1, P7.2, P7.5 at the limits
	m := wide(api.MaxValue-api.MaxDomain+1, 0)
	var all []api.Term
	for _, x := range everyPlace() {
		all = append(all, api.Term{C: api.MaxCoef, X: x})
	}
	m.Cons = []api.Con{
		{Kind: api.Lin, Op: api.Eq, Terms: all, K: -api.MaxValue},
		{Kind: api.Reif, X: 31, Terms: all, K: -api.MaxValue},
	}
	m.HasGoal, m.Goal = true, all
	rows, b := rowsOf(t, m), newBook(m)
	if got, want := shown(rows), shown(b.rows); !slices.Equal(got, want) {
		t.Fatalf("%d rows, want %d", len(got), len(want))
	}
	// all pieces are turned round, so that the degree is the greatest sum and 1,000,000,000
	if most := rows[len(rows)-5]; len(most.Pieces) != 2016 || most.Pieces[0] != (api.Piece{C: "2000000", L: -1}) || most.Degree != "64000001000000000" {
		t.Errorf("at most: %v, degree %s", most.Pieces[0], most.Degree)
	}
	pieces, offset := encode.Goal(m)
	if len(pieces) != 64*63 || offset != "63999995968000000" {
		t.Errorf("Goal: %d pieces, offset %s", len(pieces), offset)
	}
	for _, e := range []struct {
		worth int
		want  string
	}{{math.MinInt + 1, "9287372036854775808"}, {math.MaxInt, "0"}, {64000000000000000, "1"}, {64000000000000001, "0"}} {
		if row, no := encode.Less(m, e.worth); no != api.OK || row.Degree != e.want {
			t.Errorf("Less(%d): degree %s, %d; want %s", e.worth, row.Degree, no, e.want)
		}
	}
}

func TestGreatestOfAll(t *testing.T) { // P7.2, P7.3: values far apart, constraints of most rows
	m := wide(-api.MaxValue, 62500000)
	m.Cons = append(m.Cons, api.Con{Kind: api.Max, Y: 0, Xs: everyPlace()}, api.Con{Kind: api.Min, Y: 31, Xs: everyPlace()}, api.Con{Kind: api.AllDiff, Xs: everyPlace()})
	rows, b := rowsOf(t, m), newBook(m)
	if len(rows) != len(b.rows) {
		t.Fatalf("%d rows, want %d", len(rows), len(b.rows))
	}
	for i := range rows {
		if !same(rows[i], b.rows[i]) {
			t.Fatalf("row %d is %s, want %s", i+1, show(rows[i]), show(b.rows[i]))
		}
	}
	last := len(rows)
	if encode.Owner(m, last) != 2 || encode.Owner(m, last+1) != -1 {
		t.Errorf("Owner: %d, %d", encode.Owner(m, last), encode.Owner(m, last+1))
	}
	if id, ok := encode.Alone(m, 2, m.Vars[31].Hi); id != last || !ok {
		t.Errorf("Alone: %d, %v; want %d", id, ok, last)
	}
}

func TestGreatestTables(t *testing.T) { // P7.2, P7.3: as many constraints as there may be
	m := wide(0, 0)
	for c := range api.MaxCons {
		table := api.Con{Kind: api.Table, Xs: everyPlace()[c%24:][:api.MaxCols]}
		for r := range api.MaxTerms {
			table.Rows = append(table.Rows, slices.Repeat([]int{(c + r) % api.MaxDomain}, api.MaxCols))
		}
		m.Cons = append(m.Cons, table)
	}
	rows := rowsOf(t, m)
	// of the values 0 and 63 one clause isn't laid
	const ahead, each = api.MaxVars * (api.MaxDomain - 2), 1 + (2*api.MaxTerms-2)*api.MaxCols
	if want := ahead + api.MaxCons*each; len(rows) != want {
		t.Fatalf("%d rows, want %d", len(rows), want)
	}
	for c := range api.MaxCons {
		first := ahead + c*each + 1
		if encode.Owner(m, first) != c || encode.Owner(m, first+each-1) != c {
			t.Errorf("Owner of %d's: %d, %d", c, encode.Owner(m, first), encode.Owner(m, first+each-1))
		}
		if row := rows[first-1]; len(row.Pieces) != api.MaxTerms || row.Degree != "1" {
			t.Errorf("row %d: %s", first, show(row))
		}
	}
}

func TestUnequalFarApart(t *testing.T) { // P7.2: no value is asked of both
	far := api.Model{Vars: []api.Var{{Name: "x", Lo: -api.MaxValue, Hi: 2 - api.MaxValue}, {Name: "y", Lo: api.MaxValue - 2, Hi: api.MaxValue}}}
	for _, c := range []api.Con{
		{Kind: api.Ne, X: 0, Y: 1, K: api.MaxValue},
		{Kind: api.Ne, X: 1, Y: 0, K: -api.MaxValue},
		{Kind: api.Ne, X: 0, Y: 1, K: -api.MaxValue},
		{Kind: api.Ne, X: 1, Y: 0, K: api.MaxValue},
	} {
		far.Cons = []api.Con{c}
		if rows := shown(rowsOf(t, far)); len(rows) != 2 {
			t.Errorf("%+v: %q", c, rows)
		}
	}
}

func TestNothingToSay(t *testing.T) { // P7.2, P7.4, P7.5: variables of one value
	m := api.Model{Vars: []api.Var{{Name: "x", Lo: 7, Hi: 7}, {Name: "y", Lo: 0, Hi: 0}}}
	if rows := rowsOf(t, m); len(rows) != 0 {
		t.Errorf("rows %q", shown(rows))
	}
	m.Cons = []api.Con{
		{Kind: api.Lin, Op: api.Ge, Terms: terms(1, 0), K: 9},
		{Kind: api.Ne, X: 0, Y: 1, K: 7},
		{Kind: api.Ne, X: 0, Y: 1, K: 6},
		{Kind: api.Element, X: 0, Y: 1, Table: []int{0}},
		{Kind: api.Reif, X: 0, Terms: terms(1, 1), K: 3},
		{Kind: api.AllDiff, Xs: []int{0, 1, 0}},
	}
	want := []string{"1 x1 at least 1", "1 x2 at least 1", "at least 2", "at least 1", "at least 1", "at least 1", "at least 0", "at least 0", "2 ~x1 at least 1"}
	if got := shown(rowsOf(t, m)); !slices.Equal(got, want) {
		t.Errorf("rows %q, want %q", got, want)
	}
	pieces, offset := encode.Goal(withGoal(m, terms(-3, 0, 5, 1)...))
	if len(pieces) != 0 || offset != "-21" {
		t.Errorf("Goal %v, %s", pieces, offset)
	}
	if _, offset := encode.Goal(withGoal(m, terms(5, 1)...)); offset != "0" {
		t.Errorf("offset %q", offset)
	}
	if row, e := encode.Unlike(m, []int{7, 0}); show(row) != "at least 1" || e != api.OK {
		t.Errorf("Unlike: %s, %d", show(row), e)
	}
}

func TestNoGoal(t *testing.T) { // P7.4, P7.5: the goal is 0
	m := two()
	if pieces, offset := encode.Goal(m); len(pieces) != 0 || offset != "" {
		t.Errorf("Goal %v, %q", pieces, offset)
	}
	for worth, want := range map[int]string{0: "at least 1", 1: "at least 0", -4: "at least 5", 9: "at least 0"} {
		if row, e := encode.Less(m, worth); show(row) != want || e != api.OK {
			t.Errorf("Less(%d): %s, %d", worth, show(row), e)
		}
	}
	for low, want := range map[string]string{"0": "at least 0", "1": "at least 1", "-4": "at least 0", "99999999999999999999": "at least 99999999999999999999"} {
		if row, e := encode.AtLeast(m, low); show(row) != want || e != api.OK {
			t.Errorf("AtLeast(%s): %s, %d", low, show(row), e)
		}
	}
}

func TestWrongNumbers(t *testing.T) { // P7.5
	m := withGoal(two(), terms(3, 0, -2, 1)...)
	for _, low := range []string{"", "-", "-0", "00", "01", "+1", " 1", "1 ", "x", "1.0", "0x1", "1_0", "--1", "\x00", "١"} {
		if row, e := encode.AtLeast(m, low); e != api.ErrPbNumber || row.Degree != "" || row.Pieces != nil {
			t.Errorf("AtLeast(%q): %s, %d", low, show(row), e)
		}
	}
	if row, e := encode.Less(m, math.MinInt); e != api.ErrPbNumber || row.Degree != "" || row.Pieces != nil {
		t.Errorf("Less of the least int: %s, %d", show(row), e)
	}
	long := strings.Repeat("9", 5000)
	if row, e := encode.AtLeast(m, long); e != api.OK || len(row.Degree) != 5001 || len(row.Pieces) != 6 {
		t.Errorf("AtLeast of 5000 digits: %d, %d", len(row.Degree), e)
	}
	if row, e := encode.AtLeast(m, "-"+long); e != api.OK || show(row) != "3 x1 3 x2 3 x3 2 ~x4 2 ~x5 2 ~x6 at least 0" {
		t.Errorf("AtLeast of -5000 digits: %s, %d", show(row), e)
	}
}

func TestWrongValues(t *testing.T) { // P7.5
	m := two(api.Con{Kind: api.AllDiff, Xs: []int{0, 1}})
	for _, values := range [][]int{
		nil, {1}, {1, 1, 1}, {4, 0}, {-1, 0}, {0, -2}, {0, 3},
		{math.MaxInt, 0}, {math.MinInt, 0}, {0, math.MaxInt}, {0, math.MinInt}, {math.MaxInt - 1, math.MinInt + 1},
	} {
		if row, e := encode.Unlike(m, values); e != api.OK || row.Degree != "0" || len(row.Pieces) != 0 {
			t.Errorf("Unlike(%v): %s, %d", values, show(row), e)
		}
	}
}

func TestWrongProblems(t *testing.T) { // P7.2 to P7.5
	right := two(api.Con{Kind: api.AllDiff, Xs: []int{0, 1}})
	wrong := map[string]api.Model{
		"no variable":  {},
		"bounds":       {Vars: []api.Var{{Name: "x", Lo: 0, Hi: api.MaxDomain}}},
		"turned":       {Vars: []api.Var{{Name: "x", Lo: 1, Hi: 0}}},
		"a name":       {Vars: []api.Var{{Name: "9"}}, Cons: right.Cons},
		"constraints":  two(slices.Repeat(right.Cons, api.MaxCons+1)...),
		"no kind":      two(right.Cons[0], api.Con{}),
		"past a kind":  two(right.Cons[0], api.Con{Kind: api.Count + 1}),
		"no operator":  two(right.Cons[0], api.Con{Kind: api.Lin, Terms: terms(1, 0)}),
		"a field":      two(right.Cons[0], api.Con{Kind: api.AllDiff, Xs: []int{0, 1}, K: 1}),
		"a variable":   two(right.Cons[0], api.Con{Kind: api.AllDiff, Xs: []int{0, 2}}),
		"a number":     two(right.Cons[0], api.Con{Kind: api.Count, Op: api.Le, Xs: []int{0}, V: api.MaxValue + 1}),
		"a short row":  two(right.Cons[0], api.Con{Kind: api.Table, Xs: []int{0, 1}, Rows: [][]int{{0}}}),
		"a goal":       {Vars: right.Vars, Cons: right.Cons, Goal: terms(1, 0)},
		"no terms":     {Vars: right.Vars, Cons: right.Cons, HasGoal: true},
		"a goal's own": {Vars: right.Vars, Cons: right.Cons, HasGoal: true, Goal: terms(api.MaxCoef+1, 0)},
	}
	for name, m := range wrong {
		_, want := model.Check(m)
		if rows, e := encode.Rows(m); rows != nil || e != want || e == api.OK {
			t.Errorf("%s: Rows: %d, %d", name, len(rows), e)
		}
		if owner := encode.Owner(m, 15); owner != -1 {
			t.Errorf("%s: Owner %d", name, owner)
		}
		if id, ok := encode.Alone(m, 0, 0); id != 0 || ok {
			t.Errorf("%s: Alone %d, %v", name, id, ok)
		}
		if pieces, offset := encode.Goal(m); pieces != nil || offset != "" {
			t.Errorf("%s: Goal %v, %q", name, pieces, offset)
		}
		ask := func(call string, row api.Row, e api.Errno) {
			if e != want || row.Degree != "" || row.Pieces != nil {
				t.Errorf("%s: %s: %s, %d; want %d", name, call, show(row), e, want)
			}
		}
		less, e := encode.Less(m, math.MinInt)
		ask("Less", less, e)
		least, e := encode.AtLeast(m, "x")
		ask("AtLeast", least, e)
		unlike, e := encode.Unlike(m, make([]int, len(m.Vars)))
		ask("Unlike", unlike, e)
	}
}

// every: of each kind a constraint, all lists with room behind them.
func every() api.Model {
	room := func(list ...int) []int { return append(make([]int, 0, 9), list...) }
	some := append(make([]api.Term, 0, 9), terms(1, 0, -2, 1)...)
	m := two(
		api.Con{Kind: api.Lin, Op: api.Eq, Terms: some, K: 1},
		api.Con{Kind: api.Ne, X: 0, Y: 1},
		api.Con{Kind: api.AllDiff, Xs: room(0, 1)},
		api.Con{Kind: api.Element, X: 0, Y: 1, Table: room(2, 0)},
		api.Con{Kind: api.Max, Y: 0, Xs: room(1, 1)},
		api.Con{Kind: api.Min, Y: 0, Xs: room(1, 1)},
		api.Con{Kind: api.Reif, X: 0, Terms: some, K: 1},
		api.Con{Kind: api.Table, Xs: room(0, 1), Rows: [][]int{room(0, 1), room(3, -1)}},
		api.Con{Kind: api.Count, Op: api.Eq, Xs: room(0, 1), V: 1, K: 1},
	)
	return withGoal(m, some...)
}

// rooms: what stands behind the lists of a problem.
func rooms(m api.Model) string {
	text := fmt.Sprint(m.Goal[:cap(m.Goal)])
	for _, c := range m.Cons {
		text += fmt.Sprint(c.Xs[:cap(c.Xs)], c.Table[:cap(c.Table)], c.Terms[:cap(c.Terms)])
		for _, row := range c.Rows {
			text += fmt.Sprint(row[:cap(row)])
		}
	}
	return text
}

func TestNothingIsShared(t *testing.T) { // DOC.md's rule 3
	m := every()
	before, behind := model.Copy(m), rooms(m)
	values := append(make([]int, 0, 4), 2, -1)
	ask := func() ([]api.Row, []api.Piece, []string) {
		rows := rowsOf(t, m)
		less, _ := encode.Less(m, 5)
		least, _ := encode.AtLeast(m, "5")
		unlike, _ := encode.Unlike(m, values)
		pieces, _ := encode.Goal(m)
		encode.Owner(m, 20)
		encode.Alone(m, 2, 0)
		rows = append(rows, less, least, unlike)
		return rows, pieces, shown(rows)
	}
	rows, pieces, first := ask()
	others, _, _ := ask()
	for i, r := range rows {
		clear(r.Pieces[:cap(r.Pieces)])
		if i+1 < len(rows) && show(rows[i+1]) != first[i+1] {
			t.Fatalf("row %d became %s", i+2, show(rows[i+1]))
		}
	}
	clear(pieces[:cap(pieces)])
	if !slices.Equal(shown(others), first) {
		t.Error("rows that were answered became others")
	}
	if _, again, list := ask(); !slices.Equal(list, first) || len(again) != 6 || again[0] != (api.Piece{C: "1", L: 1}) {
		t.Error("rows that are answered are others")
	}
	if !model.Same(m, before) || rooms(m) != behind || !slices.Equal(values[:4], []int{2, -1, 0, 0}) {
		t.Errorf("what was handed in became %+v, %v", m, values[:4])
	}
}
