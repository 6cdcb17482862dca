package dom_test

import (
	"fmt"
	"math"
	"slices"
	"testing"

	"hallmark/api"
	"hallmark/dom"
)

// lists: a store by the chapter's words: of each variable all its values, and
// of each mark all those lists.
type lists struct {
	now   [][]int
	marks [][][]int
}

func listed(vars []api.Var) *lists {
	l := &lists{}
	for _, v := range vars {
		var values []int
		for k := v.Lo; k <= v.Hi; k++ {
			values = append(values, k)
		}
		l.now = append(l.now, values)
	}
	return l
}

func stays(c api.Cut, v int) bool {
	switch c.Kind {
	case api.AtLeast:
		return v >= c.V
	case api.AtMost:
		return v <= c.V
	case api.Not:
		return v != c.V
	}
	return true
}

func (l *lists) cut(c api.Cut) (bool, bool) {
	if c.X < 0 || c.X >= len(l.now) {
		return false, true
	}
	var left []int
	for _, v := range l.now[c.X] {
		if stays(c, v) {
			left = append(left, v)
		}
	}
	if len(left) == 0 {
		return false, false
	}
	went := len(left) < len(l.now[c.X])
	l.now[c.X] = left
	return went, true
}

// mark may note the lists themselves, as a cut makes new ones.
func (l *lists) mark() int {
	l.marks = append(l.marks, slices.Clone(l.now))
	return len(l.marks) - 1
}

func (l *lists) back(mark int) bool {
	if mark < 0 || mark >= len(l.marks) {
		return false
	}
	l.now, l.marks = l.marks[mark], slices.Clone(l.marks[:mark])
	return true
}

func (l *lists) copied() *lists {
	out := &lists{now: slices.Clone(l.now)}
	for _, m := range l.marks {
		out.marks = append(out.marks, slices.Clone(m))
	}
	return out
}

// standing: see the function of that name.
func (l *lists) standing() string {
	out := fmt.Sprintf("%d variables", len(l.now))
	var open []int
	for x, values := range l.now {
		out += fmt.Sprintf("; %d to %d, %d: %v", slices.Min(values), slices.Max(values), len(values), values)
		if len(values) > 1 {
			open = append(open, x)
		}
	}
	return out + fmt.Sprintf("; open: %v", append([]int{}, open...))
}

// standing tells all that a store answers.
func standing(s *dom.Store) string {
	out := fmt.Sprintf("%d variables", s.Vars())
	for x := range s.Vars() {
		out += fmt.Sprintf("; %d to %d, %d: %v", s.Lo(x), s.Hi(x), s.Size(x), s.Values(x))
	}
	return out + fmt.Sprintf("; open: %v", append([]int{}, s.Open()...))
}

// far: numbers that are nobody's value, and of which a sum may wrap round.
func far() []int {
	return []int{math.MinInt, math.MinInt + 1, math.MinInt32, math.MinInt32 - 1, -1 << 40, 1 << 40, math.MaxInt32, math.MaxInt32 + 1, math.MaxInt - 1, math.MaxInt}
}

// agrees holds a store against lists, also in what it has near its bounds.
func agrees(t *testing.T, s *dom.Store, l *lists) {
	t.Helper()
	if got, want := standing(s), l.standing(); got != want {
		t.Fatalf("P11.2: %s\nwant %s", got, want)
	}
	for x, values := range l.now {
		for v := slices.Min(values) - 70; v <= slices.Max(values)+70; v++ {
			if s.Has(x, v) != slices.Contains(values, v) {
				t.Fatalf("P11.2: Has(%d, %d) of %v: %v", x, v, values, s.Has(x, v))
			}
		}
	}
}

func made(t *testing.T, vars ...api.Var) *dom.Store {
	t.Helper()
	s := dom.New(api.Model{Vars: vars})
	if s == nil || s.Vars() != len(vars) {
		t.Fatalf("P11.1: New of %v", vars)
	}
	return s
}
