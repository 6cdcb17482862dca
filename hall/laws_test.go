package hall_test

import (
	"slices"
	"testing"

	"hallmark/api"
	"hallmark/dom"
	"hallmark/hall"
)

// leaves tells of each variable what stays; nothing of any, if an interval is
// overfull.
func leaves(xs []int, d *dom.Store) ([][]int, bool) {
	l, ok := hall.Cuts(xs, d)
	out := make([][]int, d.Vars())
	for x := range out {
		for _, v := range d.Values(x) {
			if ok && !slices.ContainsFunc(l, func(c api.Cause) bool { return c.Cut == not(x, v) }) {
				out[x] = append(out[x], v)
			}
		}
	}
	return out, ok
}

func TestNothingDifferentGoes(t *testing.T) { // P13.4
	s := newSource(2)
	var failed, took, held int
	for range 3000 {
		d := s.store(t, 5, 5)
		xs := s.places(d)
		left, ok := leaves(xs, d)
		if _, over := hall.Fails(xs, d); over == ok {
			t.Fatalf("P13.4: Cuts(%v) of %s says %v, Fails %v", xs, shown(d), ok, over)
		}
		if !ok {
			failed++
		}
		for x := range left {
			if ok && len(left[x]) < d.Size(x) {
				took++
			}
		}
		all(d, func(values []int) {
			if !different(xs, values) {
				return
			}
			held++
			for x, v := range values {
				if !ok || !slices.Contains(left[x], v) {
					t.Fatalf("P13.4: Cuts(%v) of %s takes %v: %v, %v", xs, shown(d), values, left, ok)
				}
			}
		})
	}
	if failed < 300 || took < 300 || held < 3000 {
		t.Errorf("%d fail, %d variables lost something, %d values are different: too few to tell", failed, took, held)
	}
}

func TestOfOneValueEach(t *testing.T) { // P13.5
	s := newSource(3)
	var yes, no int
	for range 10000 {
		d := s.store(t, 6, 9)
		xs := s.places(d)
		values := make([]int, d.Vars())
		for x := range values {
			values[x] = d.Values(x)[s.Intn(d.Size(x))]
			if slices.Contains(xs, x) { // the others may have as many as they like
				sure(d, x, values[x])
			}
		}
		l, ok := hall.Cuts(xs, d)
		if is := different(xs, values); ok != is || len(l) > 0 {
			t.Fatalf("P13.5: Cuts(%v) of %s: %v, %v", xs, shown(d), l, ok)
		}
		if ok {
			yes++
		} else {
			no++
		}
	}
	if min(yes, no) < 2000 {
		t.Errorf("%d are different, %d aren't: too few to tell", yes, no)
	}
}

func TestLessLeavesNoMore(t *testing.T) { // P13.6
	s := newSource(4)
	var failed, took, now int
	for range 10000 {
		d := s.store(t, 7, 7)
		xs := s.places(d)
		fewer := d.Copy()
		s.thin(fewer, 1+s.Intn(6))
		left, ok := leaves(xs, d)
		less, still := leaves(xs, fewer)
		if still && !ok {
			t.Fatalf("P13.6: Cuts(%v) fails of %s, but not of %s", xs, shown(d), shown(fewer))
		}
		if _, over := hall.Fails(xs, fewer); !ok && !over {
			t.Fatalf("P13.6: Fails(%v) is true of %s, but not of %s", xs, shown(d), shown(fewer))
		}
		for x := range less {
			for _, v := range less[x] {
				if !slices.Contains(left[x], v) {
					t.Fatalf("P13.6: Cuts(%v) leaves of %s %v, but of %s %v", xs, shown(d), left, shown(fewer), less)
				}
			}
			if ok && still && len(left[x]) < d.Size(x) {
				took++
			}
		}
		if !ok {
			failed++
		}
		if ok && !still {
			now++
		}
	}
	if min(failed, took, now) < 500 {
		t.Errorf("%d fail, %d only with less values, %d variables lost something: too few to tell", failed, now, took)
	}
}
