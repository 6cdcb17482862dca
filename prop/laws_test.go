package prop_test

import (
	"slices"
	"testing"

	"hallmark/api"
	"hallmark/dom"
	"hallmark/model"
	"hallmark/prop"
)

// leaves tells of each variable what stays; nothing of any, if c fails.
func leaves(c api.Con, d *dom.Store) ([][]int, bool) {
	cuts, ok := prop.Cuts(c, d)
	out := make([][]int, d.Vars())
	for x := range out {
		for _, v := range d.Values(x) {
			if ok && !slices.ContainsFunc(cuts, func(k api.Cut) bool { return k.X == x && takes(k, v) }) {
				out[x] = append(out[x], v)
			}
		}
	}
	return out, ok
}

func takes(k api.Cut, v int) bool {
	return k.Kind == least && v < k.V || k.Kind == most && v > k.V || k.Kind == not && v == k.V
}

func TestNoSolutionGoes(t *testing.T) { // P12.10
	s := newSource(3)
	var failed, held [api.Count + 1]int
	for range 1000 {
		d := s.store(t, 4, 5)
		for kind := api.Lin; kind <= api.Count; kind++ {
			c := s.con(kind, d)
			left, ok := leaves(c, d)
			if !ok {
				failed[kind]++
			}
			all(d, func(values []int) {
				if !model.Holds(c, values) {
					return
				}
				held[kind]++
				for x, v := range values {
					if !ok || !slices.Contains(left[x], v) {
						t.Fatalf("P12.10: Cuts(%+v) of %s takes %v: %v, %v", c, shown(d), values, left, ok)
					}
				}
			})
		}
	}
	for kind := api.Lin; kind <= api.Count; kind++ {
		fails := kind != api.AllDiff && kind != api.Element
		if held[kind] < 500 || fails && failed[kind] < 15 {
			t.Errorf("kind %d: %d solutions, %d that fail: too few to tell", kind, held[kind], failed[kind])
		}
	}
}

func TestOfOneValueEach(t *testing.T) { // P12.11
	s := newSource(4)
	var yes, no [api.Count + 1]int
	for range 1500 {
		d := s.store(t, 4, 5)
		for kind := api.Lin; kind <= api.Count; kind++ {
			c := s.con(kind, d)
			one, values := d.Copy(), s.values(d)
			for x, v := range values {
				for _, k := range sure(x, v) {
					one.Cut(k)
				}
			}
			l, ok := prop.Cuts(c, one)
			holds := model.Holds(c, values)
			if kind != api.AllDiff && holds != (ok && len(l) == 0) {
				t.Fatalf("P12.11: Cuts(%+v) of %s: %v, %v", c, shown(one), l, ok)
			}
			if holds {
				yes[kind]++
			} else {
				no[kind]++
			}
		}
	}
	for kind := api.Lin; kind <= api.Count; kind++ {
		if min(yes[kind], no[kind]) < 50 {
			t.Errorf("kind %d: %d hold, %d don't: too few to tell", kind, yes[kind], no[kind])
		}
	}
}

// others: the variables that aren't c's may have as many values as they like.
func TestOfOneValueOfItsOwn(t *testing.T) { // P12.11
	ends := [][2]int{{1, 1}, {0, 9}, {2, 2}}
	for _, c := range []api.Con{
		lin(api.Le, 3, 1, 0, 1, 2), {Kind: api.Ne, X: 0, Y: 2}, {Kind: api.Element, X: 0, Y: 2, Table: []int{1, 2}},
		{Kind: api.Max, Y: 2, Xs: []int{0, 2}}, {Kind: api.Min, Y: 0, Xs: []int{0, 2}}, {Kind: api.Reif, X: 0, K: 2, Terms: terms(1, 2)},
		{Kind: api.Table, Xs: []int{0, 2}, Rows: [][]int{{1, 2}}}, {Kind: api.Count, Op: api.Eq, K: 1, V: 2, Xs: []int{0, 2}},
	} {
		expect(t, "P12.11", c, storeOf(t, ends), "[]", true)
	}
}

func TestLessLeavesNoMore(t *testing.T) { // P12.12
	s := newSource(5)
	var failed, took [api.Count + 1]int
	for range 3000 {
		d := s.store(t, 4, 6)
		for kind := api.Lin; kind <= api.Count; kind++ {
			c := s.con(kind, d)
			fewer := d.Copy()
			s.thin(fewer, 1+s.Intn(6))
			left, ok := leaves(c, d)
			less, still := leaves(c, fewer)
			if still && !ok {
				t.Fatalf("P12.12: %+v fails of %s, but not of %s", c, shown(d), shown(fewer))
			}
			for x := range less {
				for _, v := range less[x] {
					if !slices.Contains(left[x], v) {
						t.Fatalf("P12.12: %+v leaves of %s %v, but of %s %v", c, shown(d), left, shown(fewer), less)
					}
				}
				if len(left[x]) < d.Size(x) {
					took[kind]++
				}
			}
			if !ok {
				failed[kind]++
			}
		}
	}
	for kind := api.Lin; kind <= api.Count; kind++ {
		if kind != api.AllDiff && (took[kind] < 100 || kind != api.Element && failed[kind] < 50) {
			t.Errorf("kind %d: %d variables that lost something, %d that fail: too few to tell", kind, took[kind], failed[kind])
		}
	}
}
