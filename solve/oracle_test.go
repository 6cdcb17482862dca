package solve_test

import (
	"math/big"
	"slices"
	"testing"

	"hallmark/api"
	"hallmark/branch"
	"hallmark/dom"
	"hallmark/engine"
	"hallmark/model"
)

// walk: a search by the chapter's words, on copies of domains, without a log.
type walk struct {
	m      api.Model
	all    bool
	e      *engine.Engine
	script *branch.Script
	fuel   int
	nodes  int
	found  [][]int
	stop   bool // out of fuel, or at the first solution
	out    bool
}

// walked: what such a search answers.
func walked(m api.Model, fuel int, h []int, all bool) (api.Verdict, *walk) {
	w := &walk{m: m, all: all, e: engine.New(m), script: branch.New(h), fuel: max(fuel, 0)}
	w.node(dom.New(m))
	return w.verdict(), w
}

func (w *walk) node(d *dom.Store) {
	if w.stop {
		return
	}
	if w.fuel == 0 {
		w.stop, w.out = true, true
		return
	}
	w.nodes++
	_, left, how := w.e.Run(d, w.fuel-1)
	w.fuel = left
	switch {
	case how == api.Out:
		w.stop, w.out = true, true
		return
	case how == api.Failed:
		return
	case len(d.Open()) == 0:
		var values []int
		for x := range d.Vars() {
			values = append(values, d.Values(x)[0])
		}
		w.leaf(values)
		return
	}
	x, k, _ := branch.Pick(d, w.script.Next())
	for _, c := range []api.Cut{{Kind: api.AtMost, X: x, V: k - 1}, {Kind: api.AtLeast, X: x, V: k}} {
		part := d.Copy()
		part.Cut(c)
		w.node(part)
	}
}

func (w *walk) leaf(values []int) {
	w.found = append(w.found, values)
	switch {
	case w.all:
	case w.m.HasGoal:
		w.e.Below(model.Worth(w.m, values))
	default:
		w.stop = true
	}
}

func (w *walk) verdict() api.Verdict {
	n := len(w.found)
	switch {
	case w.all && w.out:
		return api.Verdict{Kind: api.None}
	case w.all:
		return api.Verdict{Kind: api.All, Count: n}
	case n == 0 && w.out:
		return api.Verdict{Kind: api.None}
	case n == 0:
		return api.Verdict{Kind: api.Unsat}
	case !w.m.HasGoal:
		return api.Verdict{Kind: api.Sat, Values: w.found[0]}
	}
	worth, floor := model.Worth(w.m, w.found[n-1]), model.Floor(w.m)
	if w.out && floor < worth {
		return api.Verdict{Kind: api.Bounds, Low: floor, Worth: worth, Values: w.found[n-1]}
	}
	return api.Verdict{Kind: api.Best, Worth: worth, Values: w.found[n-1]}
}

func same(a, b api.Verdict) bool {
	return a.Kind == b.Kind && a.Low == b.Low && a.Worth == b.Worth && a.Count == b.Count && slices.Equal(a.Values, b.Values)
}

// kindAndWorth: what doesn't hang on the branching.
func kindAndWorth(v api.Verdict) [2]int { return [2]int{v.Kind, v.Worth} }

// counted: how many solutions there are, and the least worth of them, by going
// through all values.
func counted(m api.Model) (count, least int) {
	values := make([]int, len(m.Vars))
	var from func(x int)
	from = func(x int) {
		if x < len(values) {
			for v := m.Vars[x].Lo; v <= m.Vars[x].Hi; v++ {
				values[x] = v
				from(x + 1)
			}
			return
		}
		for _, c := range m.Cons {
			if !model.Holds(c, values) {
				return
			}
		}
		w := 0
		for _, t := range m.Goal {
			w += t.C * values[t.X]
		}
		if count == 0 || w < least {
			least = w
		}
		count++
	}
	from(0)
	return count, least
}

// sizes: how many values the domains have in all, the most that one has, their
// product, as a number of any size.
func sizes(m api.Model) (sum, most int, product *big.Int) {
	product = big.NewInt(1)
	for _, v := range m.Vars {
		n := v.Hi - v.Lo + 1
		sum, most = sum+n, max(most, n)
		product.Mul(product, big.NewInt(int64(n)))
	}
	return sum, most, product
}

// enough: P22.3's fuel.
func enough(t testing.TB, m api.Model) int {
	t.Helper()
	sum, _, product := sizes(m)
	n := big.NewInt(2 * int64(len(m.Cons)+2) * int64(1+sum))
	n.Mul(n, product)
	if !n.IsInt64() {
		t.Fatalf("%+v: so much fuel is no int", m)
	}
	return int(n.Int64())
}
