package encode_test

import (
	"fmt"
	"math"
	"math/big"
	"slices"
	"testing"

	"hallmark/api"
	"hallmark/encode"
	"hallmark/model"
	"hallmark/order"
)

func TestRowsByWords(t *testing.T) { // P7.1 to P7.3
	var kinds [api.Count + 1]int
	laid, free, never := 0, 0, 0
	for _, small := range []bool{true, false} {
		s := newSource(small)
		for range 400 {
			m := s.problem(t)
			rows, b := rowsOf(t, m), newBook(m)
			for i := range min(len(rows), len(b.rows)) {
				if !same(rows[i], b.rows[i]) {
					t.Fatalf("%+v: row %d is %s, want %s", m, i+1, show(rows[i]), show(b.rows[i]))
				}
				switch show(rows[i]) {
				case "at least 0":
					free++
				case "at least 1":
					never++
				}
			}
			if len(rows) != len(b.rows) {
				t.Fatalf("%+v: %d rows, want %d", m, len(rows), len(b.rows))
			}
			for _, owner := range b.owners {
				if owner >= 0 {
					kinds[m.Cons[owner].Kind]++
				}
			}
			laid += len(rows)
			owners(t, s, m, b)
			alones(t, s, m, b)
		}
	}
	if slices.Min(kinds[1:]) < 50 || free < 50 || never < 50 {
		t.Errorf("too few to tell: %v of %d, %d that hold, %d that don't", kinds, laid, free, never)
	}
}

// owners: of some ids, those at which the owner changes, and beyond all.
func owners(t *testing.T, s source, m api.Model, b *book) {
	t.Helper()
	ids := []int{1, len(b.rows)}
	for i := 1; i < len(b.owners); i++ {
		if b.owners[i] != b.owners[i-1] {
			ids = append(ids, i, i+1)
		}
	}
	for range 5 {
		ids = append(ids, 1+s.Intn(len(b.rows)+1))
	}
	ids = append(ids, 0, -1, len(b.rows)+1, len(b.rows)+2, math.MinInt, math.MaxInt)
	for _, id := range ids {
		want := -1
		if id >= 1 && id <= len(b.owners) {
			want = b.owners[id-1]
		}
		if got := encode.Owner(m, id); got != want {
			t.Fatalf("%+v: Owner(%d) = %d, want %d", m, id, got, want)
		}
	}
}

func alones(t *testing.T, s source, m api.Model, b *book) {
	t.Helper()
	ask := func(c, v int) {
		want := b.alone[[2]int{c, v}] // 0, if there is none
		if id, ok := encode.Alone(m, c, v); id != want || ok != (want > 0) {
			t.Fatalf("%+v: Alone(%d, %d) = %d, %v; want %d", m, c, v, id, ok, want)
		}
	}
	for c := -2; c < len(m.Cons)+2; c++ {
		v := m.Vars[s.Intn(len(m.Vars))]
		for _, value := range []int{v.Lo - 1, v.Lo, v.Hi, v.Hi + 1, 0, math.MinInt, math.MaxInt} {
			ask(c, value)
		}
	}
	for at := range b.alone {
		if s.Intn(4) == 0 {
			ask(at[0], at[1])
		}
	}
	ask(math.MinInt, 0)
	ask(math.MaxInt, 0)
}

// holds: of an assignment.
func holds(r api.Row, set []bool) bool {
	return sumOf(r.Pieces, set).Cmp(whole(r.Degree)) >= 0
}

func sumOf(pieces []api.Piece, set []bool) *big.Int {
	sum := new(big.Int)
	for _, p := range pieces {
		if p.L > 0 && set[p.L-1] || p.L < 0 && !set[-p.L-1] {
			sum.Add(sum, whole(p.C))
		}
	}
	return sum
}

func whole(s string) *big.Int {
	n, ok := new(big.Int).SetString(s, 10)
	if !ok || n.String() != s {
		panic("no number: " + s)
	}
	return n
}

// assignment: of values within the bounds.
func assignment(t *testing.T, m api.Model, values []int) []bool {
	t.Helper()
	o, _ := order.New(m)
	set, ok := o.Assignment(values)
	if !ok {
		t.Fatalf("%+v: no assignment of %v", m, values)
	}
	return set
}

// breaks tells the constraints (-1: the variables) of whose rows one doesn't hold.
func breaks(rows []api.Row, owners []int, set []bool) map[int]bool {
	broken := map[int]bool{}
	for i, r := range rows {
		if !holds(r, set) {
			broken[owners[i]] = true
		}
	}
	return broken
}

func ownersOf(m api.Model, rows []api.Row) []int {
	list := make([]int, len(rows))
	for i := range list {
		list[i] = encode.Owner(m, i+1)
	}
	return list
}

func TestRowsHoldOfSolutionsAlone(t *testing.T) { // P7.6, P22.5
	s := newSource(true)
	var met, unmet [api.Count + 1]int
	solutions := 0
	for range 1500 {
		m := s.problem(t)
		rows := rowsOf(t, m)
		owners := ownersOf(m, rows)
		for _, values := range allValues(m.Vars) {
			broken := breaks(rows, owners, assignment(t, m, values))
			if solution := model.Solution(m, values); solution != (len(broken) == 0) {
				t.Fatalf("%+v: of %v rows of %v don't hold", m, values, broken)
			} else if solution {
				solutions++
			}
			for c, con := range m.Cons {
				is := model.Holds(con, values)
				if is == broken[c] {
					t.Fatalf("%+v: %v: constraint %d holds: %v, its rows: %v", m, values, c, is, !broken[c])
				}
				if is {
					met[con.Kind]++
				} else {
					unmet[con.Kind]++
				}
			}
			if broken[-1] {
				t.Fatalf("%+v: %v: a variable's row doesn't hold", m, values)
			}
		}
	}
	if solutions < 1000 || slices.Min(met[1:]) < 200 || slices.Min(unmet[1:]) < 200 {
		t.Errorf("too few to tell: %d, %v, %v", solutions, met, unmet)
	}
}

func TestRowsOfAnySize(t *testing.T) { // P7.6 of great problems, at some values
	s := newSource(false)
	var met, unmet [api.Count + 1]int
	for range 250 {
		m := s.problem(t)
		b, rows := newBook(m), rowsOf(t, m)
		for range 8 {
			values := s.values(m.Vars)
			broken := breaks(rows, b.owners, assignment(t, m, values))
			for c, con := range m.Cons {
				if is := model.Holds(con, values); is == broken[c] {
					t.Fatalf("%+v: %v: constraint %d holds: %v", m, values, c, is)
				} else if is {
					met[con.Kind]++
				} else {
					unmet[con.Kind]++
				}
			}
			if broken[-1] {
				t.Fatalf("%+v: %v: a variable's row doesn't hold", m, values)
			}
		}
	}
	if slices.Min(unmet[1:]) < 100 {
		t.Errorf("too few to tell: %v, %v", met, unmet)
	}
}

// allSets: every assignment of n numbers.
func allSets(n int) func(func([]bool) bool) {
	return func(yield func([]bool) bool) {
		for bits := range 1 << n {
			set := make([]bool, n)
			for i := range set {
				set[i] = bits>>i&1 == 1
			}
			if !yield(set) {
				return
			}
		}
	}
}

func TestEachAssignmentThatHoldsTellsASolution(t *testing.T) { // P7.7, P22.5
	s := newSource(true)
	problems, whole, wide, picked := 0, 0, 0, 0
	for range 1500 {
		m := s.problem(t)
		o, _ := order.New(m)
		if o.Count() > 10 {
			continue
		}
		problems++
		rows := rowsOf(t, m)
		owners := ownersOf(m, rows)
		told := map[string]bool{}
		for set := range allSets(o.Count()) {
			broken := breaks(rows, owners, set)
			if broken[-1] {
				continue
			}
			values, _ := o.Values(set)
			want, _ := o.Assignment(values)
			for i := range set {
				if what, _ := o.Of(i + 1); set[i] != want[i] && !what.Pick {
					t.Fatalf("%+v: %v holds, but isn't the assignment of %v", m, set, values)
				} else if what.Is {
					wide++
				} else if what.Pick && len(broken) == 0 {
					picked++
				}
			}
			if len(broken) > 0 {
				continue
			}
			whole++
			told[fmt.Sprint(values)] = true
			if !model.Solution(m, values) {
				t.Fatalf("%+v: all rows hold of %v, %v is no solution", m, set, values)
			}
		}
		for _, values := range allValues(m.Vars) {
			if model.Solution(m, values) != told[fmt.Sprint(values)] {
				t.Fatalf("%+v: %v told: %v", m, values, told[fmt.Sprint(values)])
			}
		}
	}
	if problems < 300 || whole < 1000 || wide < 1000 || picked < 100 {
		t.Errorf("too few to tell: %d, %d, %d, %d", problems, whole, wide, picked)
	}
}

func TestGoalIsTheWorth(t *testing.T) { // P7.4, P7.5, P7.8, P22.5
	less, least := 0, 0
	for _, small := range []bool{true, false} {
		s := newSource(small)
		for range 300 {
			m := s.problem(t)
			pieces, offset := encode.Goal(m)
			wantPieces, wantOffset := newBook(m).goal()
			if !slices.Equal(pieces, wantPieces) || offset != wantOffset {
				t.Fatalf("%+v: Goal %v, %s; want %v, %s", m, pieces, offset, wantPieces, wantOffset)
			}
			values := s.values(m.Vars)
			set, worth := assignment(t, m, values), model.Worth(m, values)
			if m.HasGoal {
				if sum := sumOf(pieces, set); sum.Add(sum, whole(offset)).Int64() != int64(worth) {
					t.Fatalf("%+v: of %v the goal is %v, the worth %d", m, values, sum, worth)
				}
			}
			for _, w := range []int{worth - 1, worth, worth + 1, model.Floor(m), model.Ceil(m), s.Intn(9) - 4, math.MaxInt, math.MinInt + 1} {
				row, e := encode.Less(m, w)
				if e != api.OK || holds(row, set) != (worth < w) {
					t.Fatalf("%+v: Less(%d) %s, %d of %v, worth %d", m, w, show(row), e, values, worth)
				}
				atLeast, e := encode.AtLeast(m, fmt.Sprint(w))
				if e != api.OK || holds(atLeast, set) != (worth >= w) {
					t.Fatalf("%+v: AtLeast(%d) %s, %d of %v, worth %d", m, w, show(atLeast), e, values, worth)
				}
				less, least = less+len(row.Pieces), least+len(atLeast.Pieces)
			}
		}
	}
	if less < 1000 || least < 1000 {
		t.Errorf("too few to tell: %d, %d", less, least)
	}
}

func TestGoalRowsByWords(t *testing.T) { // P7.5
	s := newSource(false)
	for range 300 {
		m := s.problem(t)
		goal := newBook(m).sum(m.Goal)
		for _, w := range []int{0, 1, -1, model.Floor(m), model.Ceil(m), s.Int(), -s.Int(), math.MinInt + 1, math.MaxInt} {
			most := number(w).plus(-1, number(1)).plus(-1, goal).row()
			if row, e := encode.Less(m, w); e != api.OK || !same(row, most) {
				t.Fatalf("%+v: Less(%d) = %s, %d; want %s", m, w, show(row), e, show(most))
			}
			least := goal.plus(-1, number(w)).row()
			if row, e := encode.AtLeast(m, fmt.Sprint(w)); e != api.OK || !same(row, least) {
				t.Fatalf("%+v: AtLeast(%d) = %s, %d; want %s", m, w, show(row), e, show(least))
			}
		}
	}
}

func TestUnlikeTellsTheValuesApart(t *testing.T) { // P7.5, P7.8
	s := newSource(true)
	for range 200 {
		m := s.problem(t)
		values := s.values(m.Vars)
		row, e := encode.Unlike(m, values)
		if want := newBook(m).unlike(values); e != api.OK || !same(row, want) {
			t.Fatalf("%+v: Unlike(%v) = %s, %d; want %s", m, values, show(row), e, show(want))
		}
		for _, other := range allValues(m.Vars) {
			if holds(row, assignment(t, m, other)) == slices.Equal(other, values) {
				t.Fatalf("%+v: Unlike(%v) = %s of %v", m, values, show(row), other)
			}
		}
	}
}
