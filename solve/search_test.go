package solve_test

import (
	"math"
	"testing"

	"hallmark/api"
)

// TestFuelByFuel holds each verdict, of each fuel up to where more changes
// nothing, against a search by the chapter's words.
func TestFuelByFuel(t *testing.T) { // P18.2, P18.3
	s := newSource(1)
	kinds := map[int]int{}
	for range 250 {
		m, h := s.problem(4, 4, 4), s.script()
		p := written(t, m)
		for _, w := range ways() {
			_, whole := walked(m, enough(t, m), h, w.all)
			cost := enough(t, m) - whole.fuel
			if cost > 250 {
				continue
			}
			for fuel := -1; fuel < cost+3; fuel++ {
				v, _, err := w.do(p, fuel, h)
				want, one := walked(m, fuel, h, w.all)
				kinds[v.Kind]++
				if err != nil || !same(v, want) || one.out != (fuel < cost) {
					t.Fatalf("P18.2, P18.3: %s of %q, %d, %v: %+v, %v, want %+v", w.name, p, fuel, h, v, err, want)
				}
			}
		}
	}
	for kind := api.None; kind <= api.All; kind++ {
		if kinds[kind] < 100 {
			t.Errorf("kind %d: only %d times", kind, kinds[kind])
		}
	}
}

// TestVerdicts: rows of DOC.md's table "The solver", and fuel by fuel between them.
func TestVerdicts(t *testing.T) { // P18.2, P18.3
	const goal = "var x 0 3\nminimize -1 x\n"
	const low = "var x 0 3\nminimize 1 x\n"
	const none = "var x 0 3\nlin >= 4 1 x\n"
	const two = "var x 0 1\nvar y 0 1\nne x y 0\n"
	of := func(kind, low, worth, count int, values ...int) api.Verdict {
		return api.Verdict{Kind: kind, Low: low, Worth: worth, Count: count, Values: values}
	}
	both := ways()
	for i, c := range []struct {
		way  int
		m    string
		fuel int
		h    []int
		want api.Verdict
	}{
		{0, none, 2, nil, of(api.Unsat, 0, 0, 0)}, {0, none, 1, nil, of(api.None, 0, 0, 0)}, {1, none, 2, nil, of(api.All, 0, 0, 0)}, {1, none, 1, nil, of(api.None, 0, 0, 0)},
		{0, goal, 1, nil, of(api.None, 0, 0, 0)}, {0, goal, 2, nil, of(api.Bounds, -3, 0, 0, 0)},
		{0, goal, 5, nil, of(api.Bounds, -3, 0, 0, 0)}, {0, goal, 6, nil, of(api.Bounds, -3, -1, 0, 1)},
		{0, goal, 100, nil, of(api.Best, 0, -3, 0, 3)}, {0, goal, math.MaxInt, nil, of(api.Best, 0, -3, 0, 3)},
		{0, low, 1, nil, of(api.None, 0, 0, 0)}, {0, low, 2, nil, of(api.Best, 0, 0, 0, 0)}, {0, low, 4, nil, of(api.Best, 0, 0, 0, 0)}, // at the floor
		{1, goal, 100, nil, of(api.All, 0, 0, 4)}, {1, goal, 7, nil, of(api.All, 0, 0, 4)}, {1, goal, 6, nil, of(api.None, 0, 0, 0)}, // whatever the goal
		{0, two, 100, nil, of(api.Sat, 0, 0, 0, 0, 1)}, {0, two, 100, []int{1}, of(api.Sat, 0, 0, 0, 1, 0)}, {0, two, 4, nil, of(api.None, 0, 0, 0)}, {1, two, 100, nil, of(api.All, 0, 0, 2)},
		{0, "var x 5 5\n", 0, nil, of(api.None, 0, 0, 0)}, {0, "var x 5 5\n", 1, nil, of(api.Sat, 0, 0, 0, 5)}, {1, "var x 5 5\n", 1, nil, of(api.All, 0, 0, 1)}, {0, "var x 5 5\nminimize 2 x\n", 1, nil, of(api.Best, 0, 10, 0, 5)},
		{0, two, math.MinInt, nil, of(api.None, 0, 0, 0)}, {1, two, -1, nil, of(api.None, 0, 0, 0)}, {1, two, math.MaxInt, nil, of(api.All, 0, 0, 2)},
	} {
		if v, _ := both[c.way].proved(t, c.m, c.fuel, c.h); !same(v, c.want) {
			t.Errorf("P18.3: row %d: %s of %q, %d: %+v, want %+v", i, both[c.way].name, c.m, c.fuel, v, c.want)
		}
	}
}

// TestScriptsSteer: each split takes one number, and no other thing does.
func TestScriptsSteer(t *testing.T) { // P18.2
	const m = "var x 0 3\nvar y 0 3\nvar z 0 3\nlin = 3 1 x 1 y 1 z\nminimize 9 x 3 y -1 z\n"
	seen := map[string]int{}
	s := newSource(2)
	for range 300 {
		h := s.script()
		w := ways()[0]
		want, steps := walked(read(t, m), 30, h, false)
		v, log := w.proved(t, m, 30, h)
		again, longer := w.proved(t, m, 30, append(h[:len(h):len(h)], 0, 0, 0))
		if !same(v, want) || !same(v, again) || log != longer {
			t.Fatalf("P18.2: %v: %+v, %+v, want %+v", h, v, again, want)
		}
		seen[log]++
		if steps.nodes < 2 {
			t.Errorf("P18.2: %v: %d nodes", h, steps.nodes)
		}
	}
	if len(seen) < 20 {
		t.Errorf("P18.2: only %d unlike logs", len(seen))
	}
}
