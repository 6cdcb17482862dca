package unit_test

import (
	"slices"
	"testing"

	"hallmark/api"
	"hallmark/pb"
	"hallmark/unit"
)

// TestWhatFollowsIsSo asks all assignments.
func TestWhatFollowsIsSo(t *testing.T) { // P3.5
	found := map[bool]int{}
	s := newSource()
	for range 4000 {
		all, lits, r := s.rows(t), s.lits(), s.row(t)
		got, ok := unit.Run(all, lits)
		shown := unit.Shows(all, r)
		found[shown]++
		for bits := range 1 << vars {
			switch is := holds(bits, all...); {
			case is && allTrue(bits, lits) && (!ok || !allTrue(bits, got)):
				t.Fatalf("P3.5: %s from %v: %v %v; not so of %b", told(all...), lits, got, ok, bits)
			case is && shown && !holds(bits, r):
				t.Fatalf("P3.5: %s of %s is shown; not so of %b", told(r), told(all...), bits)
			}
		}
	}
	if found[true] < 500 || found[false] < 500 {
		t.Errorf("P3.5: too few kinds: %v", found)
	}
}

func TestMoreMakesNoLess(t *testing.T) { // P3.6
	s := newSource()
	for range 4000 {
		some, others, lits, more, r := s.rows(t), s.rows(t), s.lits(), s.lits(), s.row(t)
		all, from := slices.Concat(some, others), slices.Concat(lits, more)
		less, lessOK := unit.Run(some, lits)
		got, ok := unit.Run(all, from)
		if ok && (!lessOK || slices.ContainsFunc(less, func(l int) bool { return !slices.Contains(got, l) })) {
			t.Fatalf("P3.6: %s from %v: %v; with %s and %v: %v", told(some...), lits, less, told(others...), more, got)
		}
		if unit.Shows(some, r) && !unit.Shows(all, r) {
			t.Fatalf("P3.6: %s of %s is shown; not with %s", told(r), told(some...), told(others...))
		}
	}
}

func TestRunTwice(t *testing.T) { // P3.6
	s := newSource()
	for range 4000 {
		all, lits := s.rows(t), s.lits()
		once, ok := unit.Run(all, lits)
		if twice, still := unit.Run(all, once); ok && (!still || !slices.Equal(twice, once)) {
			t.Fatalf("P3.6: %s from %v: %v, then %v", told(all...), lits, once, twice)
		}
	}
}

func TestRowsShowThemselves(t *testing.T) { // P3.7
	asked := 0
	s := newSource()
	for range 4000 {
		all := s.rows(t)
		for _, r := range all {
			if slices.ContainsFunc(r.Plain().Pieces, func(p api.Piece) bool { return std(p.C).Cmp(std(r.Plain().Degree)) < 0 }) {
				continue
			}
			asked++
			if !unit.Shows(all, r) || !unit.Shows([]pb.Row{r}, r) {
				t.Fatalf("P3.7: %s of %s isn't shown", told(r), told(all...))
			}
		}
	}
	if asked < 1000 {
		t.Errorf("P3.7: only %d rows", asked)
	}
	if r := row(t, "2 x1 2 x2 2 x3 >= 3"); unit.Shows([]pb.Row{r}, r) {
		t.Errorf("P3.7: %s is shown by itself", told(r))
	}
}

func TestClausesByTheirNegations(t *testing.T) { // P3.7
	found := map[bool]int{}
	s := newSource()
	for range 4000 {
		all := append(s.rows(t), s.rows(t)...)
		var lits, not []int
		for _, v := range s.Perm(vars)[:s.Intn(3)] {
			l := (v + 1) * (1 - 2*s.Intn(2))
			lits, not = append(lits, l), append(not, -l)
		}
		_, ok := unit.Run(all, not)
		found[ok]++
		if unit.Shows(all, clause(t, lits...)) == ok {
			t.Fatalf("P3.7: %v of %s: Run from the negations: %v", lits, told(all...), ok)
		}
	}
	if found[true] < 500 || found[false] < 500 {
		t.Errorf("P3.7: too few kinds: %v", found)
	}
}

// TestNothingIsTouched: DOC.md's rule 3, of lists with spare room.
func TestNothingIsTouched(t *testing.T) { // P3.1, P3.3, P3.4
	all, r := rows(t, three+"; 1 x7 >= 1"), row(t, "1 x2 >= 1")
	few := all[:3]
	room := []int{3, -2, 3, 9, 8}
	lits := room[:2]
	was := told(all...)
	unit.Slack(r, lits)
	unit.Run(few, lits)
	unit.Shows(few, r)
	places, ok := unit.Why(few, r)
	if told(all...) != was || !slices.Equal(room, []int{3, -2, 3, 9, 8}) {
		t.Errorf("rule 3: %s, %v: changed", told(all...), room)
	}
	again, _ := unit.Why(few, r)
	clear(places[:cap(places)])
	if third, _ := unit.Why(few, r); !ok || !slices.Equal(again, []int{0, 1, 2}) || !slices.Equal(third, again) {
		t.Errorf("rule 3: Why: %v, then %v", again, third)
	}
	first, _ := unit.Run(nil, lits)
	second, _ := unit.Run(nil, lits)
	clear(first[:cap(first)])
	if !slices.Equal(second, []int{-2, 3}) || room[0] != 3 {
		t.Errorf("rule 3: Run: %v", second)
	}
}
