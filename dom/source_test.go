package dom_test

import (
	"math/rand"
	"strconv"

	"hallmark/api"
)

// source: problems and cuts by chance, the same ones in each run.
type source struct{ *rand.Rand }

func newSource(seed int64) source { return source{rand.New(rand.NewSource(seed))} }

// vars: some variables, of one value, of few, of as many as may be, here and at
// the ends of what a bound may be.
func (s source) vars(most int) []api.Var {
	out := make([]api.Var, 1+s.Intn(most))
	for i := range out {
		width := []int{0, 1, s.Intn(8), 31, 32, api.MaxDomain - 1, s.Intn(api.MaxDomain)}[s.Intn(7)]
		lo := []int{0, -s.Intn(70), s.Intn(1000), -api.MaxValue, api.MaxValue - width, -width}[s.Intn(6)]
		out[i] = api.Var{Name: "x" + strconv.Itoa(i), Lo: lo, Hi: lo + width}
	}
	return out
}

// cut: mostly one that takes something out, now and then one that is wrong.
func (s source) cut(vars []api.Var) api.Cut {
	c := api.Cut{Kind: api.AtLeast + s.Intn(3), X: s.Intn(len(vars))}
	v := vars[c.X]
	c.V = v.Lo - 2 + s.Intn(v.Hi-v.Lo+5)
	switch s.Intn(12) {
	case 0:
		c.V = far()[s.Intn(len(far()))]
	case 1:
		c.Kind = []int{0, -1, 4, 9, far()[s.Intn(len(far()))]}[s.Intn(5)]
	case 2:
		c.X = []int{-1, len(vars), len(vars) + 1, api.MaxVars, far()[s.Intn(len(far()))]}[s.Intn(5)]
	case 3, 4, 5, 6: // takes one value at most, so that domains last
		c.Kind = api.Not
	}
	return c
}
