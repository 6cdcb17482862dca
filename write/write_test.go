package write_test

import (
	"fmt"
	"math"
	"strings"
	"testing"

	"hallmark/api"
	"hallmark/write"
)

func TestBegin(t *testing.T) { // P16.1
	for _, goal := range []bool{false, true} {
		for rows, begins := range map[int]int{0: 0, 1: 1, 2: 2, 1 << 20: 1 << 20, math.MaxInt32: math.MaxInt32, 1 << 40: 1 << 40, math.MaxInt - 1: math.MaxInt - 1, -1: 0, -2: 0, math.MinInt32: 0, math.MinInt: 0} {
			w := write.New(rows, goal)
			if w.Next() != begins+1 {
				t.Errorf("New(%d, %v): Next is %d", rows, goal, w.Next())
			}
			reads(t, w, fmt.Sprint("f ", begins))
		}
	}
	reads(t, write.New(math.MaxInt, true), "f 9223372036854775807")
}

func TestNext(t *testing.T) { // P16.1, P16.2: what adds a row, and what doesn't
	for _, goal := range []bool{false, true} {
		w := write.New(4, goal)
		next := 5
		for range 3 {
			for _, c := range []call{rup(clause(1)), note(), pol(of("1")), same(1, clause(1)), solx(), del(1), soli(-1), solx(2), del(9, 9), rup(clause(), 1, 1)} {
				adds := c.step == api.StepRup || c.step == api.StepPol || c.step == api.StepSolx || c.step == api.StepSoli && goal
				if adds {
					say(t, w, c, next, api.OK)
					next++
				} else {
					say(t, w, c, 0, api.OK)
				}
				if w.Next() != next {
					t.Errorf("goal %v, behind %+v: Next is %d, want %d", goal, c, w.Next(), next)
				}
			}
		}
		say(t, w, end(api.None, 0, 0, 0), 0, api.OK)
		if w.Next() != next {
			t.Errorf("goal %v, behind the end: Next is %d, want %d", goal, w.Next(), next)
		}
	}
}

func TestLines(t *testing.T) { // P16.2, P16.4
	const long = "123456789012345678901234567890"
	odd := api.Row{Pieces: []api.Piece{{C: "-3", L: -2}, {C: "0", L: api.MaxLit}, {C: long, L: -2}}, Degree: "-" + long}
	for _, e := range []struct {
		call
		line string
	}{
		{rup(clause()), "rup >= 1 ;"},
		{rup(api.Row{Degree: "0"}), "rup >= 0 ;"},
		{rup(odd), "rup -3 ~x2 0 x1073741824 " + long + " ~x2 >= -" + long + " ;"},
		{rup(clause(2, -3), 2, 1, 2), "rup 1 x2 1 ~x3 >= 1 ; 2 1 2"},
		{rup(clause(1), math.MaxInt), "rup 1 x1 >= 1 ; 9223372036854775807"},
		{pol(of("7")), "pol 7"},
		{pol(of(long), api.Op{Kind: api.OpLit, L: -5}, api.Op{Kind: api.OpAdd}, api.Op{Kind: api.OpTimes, N: "2"}, api.Op{Kind: api.OpDiv, N: long}, api.Op{Kind: api.OpSaturate}, api.Op{Kind: api.OpWeaken, L: 5}), "pol " + long + " ~x5 + 2 * " + long + " d s x5 w"},
		{soli(), "soli"},
		{soli(3, -1, 3, -api.MaxLit), "soli x3 ~x1 x3 ~x1073741824"},
		{solx(), "solx"},
		{solx(-1, 2), "solx ~x1 x2"},
		{same(3, clause(-4)), "e 3 1 ~x4 >= 1 ;"},
		{same(math.MaxInt, odd), "e 9223372036854775807 -3 ~x2 0 x1073741824 " + long + " ~x2 >= -" + long + " ;"},
		{del(3), "del id 3"},
		{del(3, 1, 3, math.MaxInt), "del id 3 1 3 9223372036854775807"},
		{note(), "*"},
	} {
		w := write.New(2, false)
		if _, f := e.on(w); f != api.OK {
			t.Errorf("%+v: %d", e.call, f)
		}
		reads(t, w, "f 2", e.line)
		e.on(w)
		reads(t, w, "f 2", e.line, e.line)
	}
}

// wrong: calls that have no line.
func wrong() []call {
	const most = api.MaxLit
	var all []call
	for _, n := range []string{"", "x", "-", "-0", "00", "01", "+1", " 1", "1 ", "1 x1 1", "1\n", "1 ;\n*", "1 ; 1", "1.0", "0x1", "１", "\xff"} {
		r := api.Row{Pieces: []api.Piece{{C: "1", L: 1}, {C: n, L: 2}}, Degree: "1"}
		all = append(all, rup(r), same(1, r), rup(api.Row{Degree: n}), same(1, api.Row{Degree: n}), pol(of(n)), pol(of("1"), api.Op{Kind: api.OpTimes, N: n}), pol(of("1"), api.Op{Kind: api.OpDiv, N: n}))
	}
	for _, l := range []int{0, most + 1, -most - 1, math.MinInt, math.MaxInt, math.MinInt32, math.MaxInt32} {
		all = append(all, rup(clause(1, l)), same(1, clause(l, 1)), soli(l), soli(1, l), solx(l, 1), solx(l), pol(api.Op{Kind: api.OpLit, L: l}), pol(of("1"), api.Op{Kind: api.OpWeaken, L: l}))
	}
	for _, id := range []int{0, -1, -2, math.MinInt} {
		all = append(all, rup(clause(1), id), rup(clause(1), 1, id, 2), same(id, clause(1)), del(id), del(1, id), del(id, 1), pol(of(fmt.Sprint(id))), pol(of("1"), api.Op{Kind: api.OpDiv, N: fmt.Sprint(id)}))
	}
	all = append(all, del(), pol(), rup(api.Row{}), same(1, api.Row{}), pol(api.Op{Kind: api.OpWeaken, L: -1}))
	for _, o := range []api.Op{{}, {Kind: -1}, {Kind: api.OpWeaken + 1}, {Kind: api.OpRow}, {Kind: api.OpRow, N: "1", L: 1}, {Kind: api.OpLit, N: "1", L: 1}, {Kind: api.OpAdd, N: "1"}, {Kind: api.OpSaturate, L: 1}, {Kind: api.OpTimes, N: "1", L: 1}, {Kind: api.OpWeaken, N: "1", L: 1}} {
		all = append(all, pol(o), pol(of("1"), o))
	}
	return all
}

func TestWhatHasNoLine(t *testing.T) { // P16.2
	for _, goal := range []bool{false, true} {
		w := write.New(3, goal)
		for _, c := range wrong() {
			say(t, w, c, 0, api.ErrWriteRow)
		}
		reads(t, w, "f 3")
		say(t, w, rup(clause(1)), 4, api.OK)
	}
}

func TestEnds(t *testing.T) { // P16.3
	for _, e := range []struct {
		call
		line string
	}{
		{end(api.None, 0, 0, 0), "NONE"},
		{end(api.Unsat, 0, 0, 0), "UNSAT"},
		{end(api.Unsat, 1, 0, 0), "UNSAT : 1"},
		{end(api.Unsat, math.MaxInt, 0, 0), "UNSAT : 9223372036854775807"},
		{end(api.Sat, 0, 0, 0), "SAT"},
		{end(api.Bounds, 0, 0, 0), "BOUNDS 0 0"},
		{end(api.Bounds, 5, 0, 0), "BOUNDS 0 : 5 0"},
		{end(api.Bounds, 0, -3, 4), "BOUNDS -3 4"},
		{end(api.Bounds, 7, 4, -3), "BOUNDS 4 : 7 -3"},
		{end(api.Bounds, 1, 0, 9), "BOUNDS 0 : 1 9"},
		{end(api.Bounds, 1, 9, 0), "BOUNDS 9 : 1 0"},
		{end(api.Bounds, math.MaxInt, math.MinInt, math.MaxInt), "BOUNDS -9223372036854775808 : 9223372036854775807 9223372036854775807"},
		{end(api.All, 1, 0, 0), "ALL 0 : 1"},
		{end(api.All, 8, 0, 5), "ALL 5 : 8"},
		{end(api.All, math.MaxInt, 0, math.MaxInt), "ALL 9223372036854775807 : 9223372036854775807"},
	} {
		w := write.New(2, true)
		say(t, w, note(), 0, api.OK)
		say(t, w, e.call, 0, api.OK)
		reads(t, w, "f 2", "*", "output NONE", "conclusion "+e.line, "end pseudo-Boolean proof")
	}
}

func TestNoEnds(t *testing.T) { // P16.3: what a kind hasn't
	w := write.New(2, false)
	for _, n := range []int{1, -1, 7, math.MinInt, math.MaxInt} {
		for _, c := range []call{end(api.None, n, 0, 0), end(api.None, 0, n, 0), end(api.None, 0, 0, n), end(api.Sat, n, 0, 0), end(api.Sat, 0, n, 0), end(api.Sat, 0, 0, n), end(api.Unsat, 0, n, 0), end(api.Unsat, 1, 0, n), end(api.All, 1, n, 0), end(api.All, 1, n, 3), end(api.All, 0, 0, n)} {
			say(t, w, c, 0, api.ErrWriteRow)
		}
	}
	for _, n := range []int{-1, -2, math.MinInt} {
		for _, c := range []call{end(api.Unsat, n, 0, 0), end(api.Bounds, n, 0, 0), end(api.Bounds, n, 1, 2), end(api.All, n, 0, 1), end(api.All, 1, 0, n)} {
			say(t, w, c, 0, api.ErrWriteRow)
		}
	}
	for _, kind := range []int{0, -1, api.Best, api.All + 1, math.MinInt, math.MaxInt} {
		for _, c := range []call{end(kind, 0, 0, 0), end(kind, 1, 0, 0), end(kind, 0, 1, 1), end(kind, 1, 0, 3)} {
			say(t, w, c, 0, api.ErrWriteRow)
		}
	}
	say(t, w, end(api.All, 0, 0, 0), 0, api.ErrWriteRow)
	reads(t, w, "f 2")
	say(t, w, end(api.All, 1, 0, 0), 0, api.OK)
}

func TestOver(t *testing.T) { // P16.2, P16.3: behind the end nothing goes, right or wrong
	right := []call{rup(clause(1)), rup(clause(1), 1), pol(of("1")), soli(1), soli(), solx(1), same(1, clause(1)), del(1), note(), end(api.None, 0, 0, 0), end(api.Sat, 0, 0, 0), end(api.Unsat, 1, 0, 0), end(api.Bounds, 0, 0, 0), end(api.All, 1, 0, 0)}
	for _, goal := range []bool{false, true} {
		for _, last := range []call{end(api.None, 0, 0, 0), end(api.Sat, 0, 0, 0), end(api.Unsat, 1, 0, 0), end(api.Bounds, 0, 0, 0), end(api.All, 1, 0, 0)} {
			w := write.New(2, goal)
			say(t, w, rup(clause(1)), 3, api.OK)
			say(t, w, end(api.Best, 0, 0, 0), 0, api.ErrWriteRow) // what is refused ends nothing
			say(t, w, rup(clause(1)), 4, api.OK)
			say(t, w, last, 0, api.OK)
			for _, c := range append(append(wrong(), end(0, -1, 0, 0), end(api.Best, 0, 0, 0)), right...) {
				say(t, w, c, 0, api.ErrWriteOver)
			}
			if w.Next() != 5 || strings.Count(w.Text(), "\n") != 7 || len(w.Steps()) != 7 {
				t.Errorf("goal %v: Next is %d, %s", goal, w.Next(), w.Text())
			}
		}
	}
}
