package model_test

import (
	"slices"
	"testing"

	"hallmark/api"
	"hallmark/model"
)

// laws goes through constraints of a kind, with values that they hold of or not.
func laws(t *testing.T, kind int, law func(s source, c api.Con, values []int) bool) {
	t.Helper()
	s := newSource()
	for range 6000 {
		vars := 1 + s.Intn(4)
		c := s.con(vars)
		if c.Kind != kind && kind != 0 {
			continue
		}
		for range 10 {
			values := s.numbers(vars)
			if !law(s, c, values) {
				t.Fatalf("%+v, %v", c, values)
			}
		}
	}
}

func withOp(c api.Con, op int) api.Con {
	c.Op = op
	return c
}

func TestOwnVariablesAlone(t *testing.T) { // P4.10
	laws(t, 0, func(s source, c api.Con, values []int) bool {
		own := slices.Clone(c.Xs)
		for _, term := range c.Terms {
			own = append(own, term.X)
		}
		switch c.Kind {
		case api.Ne, api.Element:
			own = append(own, c.X, c.Y)
		case api.Max, api.Min:
			own = append(own, c.Y)
		case api.Reif:
			own = append(own, c.X)
		}
		others := append(s.numbers(len(values)), s.numbers(3)...)
		for _, x := range own {
			others[x] = values[x]
		}
		return model.Holds(c, values) == model.Holds(c, others)
	})
}

func TestEqIsLeAndGe(t *testing.T) { // P4.10
	for _, kind := range []int{api.Lin, api.Count} {
		laws(t, kind, func(_ source, c api.Con, values []int) bool {
			le, eq, ge := model.Holds(withOp(c, api.Le), values), model.Holds(withOp(c, api.Eq), values), model.Holds(withOp(c, api.Ge), values)
			return eq == (le && ge) && (le || ge)
		})
	}
}

func TestSignsTurned(t *testing.T) { // P4.10
	laws(t, api.Lin, func(_ source, c api.Con, values []int) bool {
		turned := withOp(c, api.Ge)
		turned.Terms, turned.K = slices.Clone(c.Terms), -c.K
		for i := range turned.Terms {
			turned.Terms[i].C = -turned.Terms[i].C
		}
		return model.Holds(withOp(c, api.Le), values) == model.Holds(turned, values)
	})
}

func TestReifIsLe(t *testing.T) { // P4.10
	laws(t, api.Reif, func(_ source, c api.Con, values []int) bool {
		le := model.Holds(api.Con{Kind: api.Lin, Op: api.Le, Terms: c.Terms, K: c.K}, values)
		switch values[c.X] {
		case 1:
			return model.Holds(c, values) == le
		case 0:
			return model.Holds(c, values) == !le
		}
		return !model.Holds(c, values)
	})
}

func TestNever(t *testing.T) { // P4.10
	laws(t, api.AllDiff, func(s source, c api.Con, values []int) bool {
		c.Xs = append(slices.Clone(c.Xs), c.Xs[s.Intn(len(c.Xs))])
		return !model.Holds(c, values)
	})
	laws(t, api.Element, func(_ source, c api.Con, values []int) bool {
		at := values[c.X]
		return at >= 0 && at < len(c.Table) || !model.Holds(c, values)
	})
}

func TestRowsOfATable(t *testing.T) { // P4.10
	laws(t, api.Table, func(s source, c api.Con, values []int) bool {
		was := model.Holds(c, values)
		other := c
		other.Rows = nil
		for _, i := range s.Perm(len(c.Rows)) {
			other.Rows = append(other.Rows, c.Rows[i])
		}
		order := model.Holds(other, values) == was
		other.Rows = append(other.Rows, c.Rows[s.Intn(len(c.Rows))])
		twice := model.Holds(other, values) == was
		other.Rows = append(other.Rows, s.numbers(len(c.Xs)))
		return order && twice && (!was || model.Holds(other, values))
	})
	c := api.Con{Kind: api.Table, Xs: []int{0}, Rows: many(64, []int{1})}
	if !model.Holds(c, []int{1}) {
		t.Error("a Table of 64 rows")
	}
	c.Rows = append(c.Rows, []int{1})
	if model.Holds(c, []int{1}) {
		t.Error("a Table of 65 rows, which couldn't stand in a right problem")
	}
}

func TestCountOfPlaces(t *testing.T) { // P4.10
	laws(t, api.Count, func(_ source, c api.Con, values []int) bool {
		n := len(c.Xs)
		at := func(op, k int) bool {
			c.Op, c.K = op, k
			return model.Holds(c, values)
		}
		return at(api.Le, n) && !at(api.Ge, n+1) && !at(api.Eq, n+1) && at(api.Ge, 0) && !at(api.Le, -1)
	})
}

func TestOneConstraintMore(t *testing.T) { // P4.11
	s := newSource()
	fewer := 0
	for range 500 {
		m := s.problem()
		with := model.Copy(m)
		with.Cons = slices.Insert(with.Cons, s.Intn(len(with.Cons)+1), s.con(len(m.Vars)))
		before, behind := solutions(m), solutions(with)
		if len(behind) < len(before) {
			fewer++
		}
		for _, values := range behind {
			if !slices.ContainsFunc(before, func(v []int) bool { return slices.Equal(v, values) }) {
				t.Fatalf("%v is a solution of %+v, not of %+v", values, with, m)
			}
		}
	}
	if fewer < 100 {
		t.Errorf("%d constraints asked for something: too few to tell", fewer)
	}
}
