package base_test

import (
	"strconv"
	"testing"

	"hallmark/api"
	"hallmark/base"
	"hallmark/pb"
)

// TestWhatIsTakenHolds asks all assignments, of bases on which steps were taken.
func TestWhatIsTakenHolds(t *testing.T) { // P9.5
	s := newSource()
	found := map[string]int{}
	for range 1500 {
		first := s.rows(t, 5)
		b := base.New(first)
		for range 12 {
			s.step(t, b, found)
		}
		for bits := range 1 << vars {
			if holds(bits, first...) && !holds(bits, there(b)...) {
				t.Fatalf("P9.5: %s: not all hold of %b", told(b), bits)
			}
		}
	}
	for _, kind := range []string{"pol", "rup", "rup of", "drop", "no row"} {
		if found[kind] < 200 {
			t.Errorf("P9.5: too few to tell: %v", found)
		}
	}
}

// step adds a row that the base makes, or takes, or drops one. Rows that are
// taken hold of all assignments of which those hold that are there.
func (s source) step(t *testing.T, b *base.Base, found map[string]int) {
	t.Helper()
	r, kind := s.row(t), "rup"
	ok := false
	switch s.Intn(4) {
	case 0:
		made, e := b.Pol(s.ops(b))
		r, kind, ok = made, "pol", e == api.OK
	case 1:
		ok = b.Rup(r)
	case 2:
		kind = "rup of"
		ok, _ = b.RupOf(r, s.ids(b))
	case 3:
		if b.Drop(s.id(b)) == api.OK {
			found["drop"]++
		}
		return
	}
	if !ok {
		found["no row"]++
		return
	}
	found[kind]++
	for bits := range 1 << vars {
		if holds(bits, there(b)...) && !holds(bits, r) {
			t.Fatalf("P9.5: %s: %s by %s doesn't hold of %b", told(b), text(r), kind, bits)
		}
	}
	b.Add(r)
}

func there(b *base.Base) []pb.Row {
	var all []pb.Row
	for _, r := range b.All() {
		all = append(all, r)
	}
	return all
}

func TestIdsStayWhatTheyAre(t *testing.T) { // P9.6
	s := newSource()
	for range 500 {
		b := s.base(t)
		for range 6 {
			was, gone := b.Copy(), strconv.Itoa(1+s.Intn(b.Next()))
			dropped := b.Drop(gone) == api.OK
			for id := range b.Next() + 1 {
				r, e := b.Row(strconv.Itoa(id))
				want, wantE := was.Row(strconv.Itoa(id))
				if dropped && strconv.Itoa(id) == gone {
					want, wantE = pb.Row{}, api.ErrBaseGone
				}
				if e != wantE || !pb.Same(r, want) {
					t.Fatalf("P9.6: %s: Drop(%s): row %d is %s, %d; it was %s, %d", told(was), gone, id, text(r), e, text(want), wantE)
				}
			}
			if b.Next() != was.Next() {
				t.Fatalf("P9.6: Drop(%s): %d comes next, it was %d", gone, b.Next(), was.Next())
			}
		}
	}
}

func TestMoreRowsTakeNoLess(t *testing.T) { // P9.6
	s := newSource()
	taken, takenOf := 0, 0
	for range 4000 {
		b := s.base(t)
		r, ids, more := s.row(t), s.ids(b), s.ids(b)
		ofSome, _ := b.RupOf(r, ids)
		ofMore, e := b.RupOf(r, append(append([]string{}, more...), ids...))
		if ofSome && e == api.OK && !ofMore {
			t.Fatalf("P9.6: %s: RupOf(%s; %q), but not with %q", told(b), text(r), ids, more)
		}
		if ofSome && !b.Rup(r) {
			t.Fatalf("P9.6: %s: RupOf(%s; %q), but not Rup", told(b), text(r), ids)
		}
		if ofSome {
			takenOf++
		}
		if !b.Rup(r) {
			continue
		}
		taken++
		for range 3 {
			b.Add(s.row(t))
			if !b.Rup(r) {
				t.Fatalf("P9.6: %s: Rup(%s) no more", told(b), text(r))
			}
		}
	}
	if taken < 500 || takenOf < 200 {
		t.Errorf("P9.6: too few to tell: %d, %d", taken, takenOf)
	}
}
