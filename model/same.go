package model

import (
	"slices"

	"hallmark/api"
)

// Same tells whether two problems are the same.
func Same(a, b api.Model) bool {
	return slices.Equal(a.Vars, b.Vars) && slices.EqualFunc(a.Cons, b.Cons, sameCon) &&
		a.HasGoal == b.HasGoal && slices.Equal(a.Goal, b.Goal)
}

func sameCon(a, b api.Con) bool {
	return plainOf(a) == plainOf(b) && slices.Equal(a.Terms, b.Terms) && slices.Equal(a.Xs, b.Xs) &&
		slices.Equal(a.Table, b.Table) && slices.EqualFunc(a.Rows, b.Rows, slices.Equal[[]int])
}

// Copy tells the same problem in new memory.
func Copy(m api.Model) api.Model {
	m.Vars, m.Cons, m.Goal = copyOf(m.Vars), copyOf(m.Cons), copyOf(m.Goal)
	for i := range m.Cons {
		c := &m.Cons[i]
		c.Terms, c.Xs, c.Table, c.Rows = copyOf(c.Terms), copyOf(c.Xs), copyOf(c.Table), copyOf(c.Rows)
		for j, row := range c.Rows {
			c.Rows[j] = copyOf(row)
		}
	}
	return m
}

// copyOf leaves an empty list nothing of the memory that it lay in, as slices.Clone wouldn't.
func copyOf[T any](list []T) []T { return append([]T(nil), list...) }
