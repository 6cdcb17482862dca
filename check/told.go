package check

import (
	"hallmark/api"
	"hallmark/encode"
	"hallmark/model"
)

// told: the solutions that steps told.
type told struct {
	solis, solxs int   // how many steps of either kind were taken
	last         []int // the solution told last
	least        int   // the least worth of all of them
	ahead        map[key]struct{}
}

// key: a solution's values, and zeros behind them, so that a map finds it.
type key [api.MaxVars]int

func keyOf(values []int) key {
	var k key
	copy(k[:], values)
	return k
}

func (t *told) none() bool { return t.solis+t.solxs == 0 }

func (t *told) has(values []int) bool {
	_, there := t.ahead[keyOf(values)]
	return there
}

// add makes a solution the one told last; the caller counts the step then.
func (t *told) add(values []int, worth int) {
	if t.none() || worth < t.least {
		t.least = worth
	}
	t.last = values
	t.ahead[keyOf(values)] = struct{}{}
}

func (c *checker) soli(s api.Step) api.Errno {
	values, e := c.tells(s.Lits)
	if e != api.OK {
		return e
	}
	worth := model.Worth(c.model, values)
	if c.model.HasGoal && !c.told.none() && worth >= c.told.least {
		return api.ErrCheckSoli
	}
	c.told.add(values, worth)
	c.told.solis++
	if !c.model.HasGoal {
		return api.OK
	}
	return c.addPlain(encode.Less(c.model, worth))
}

func (c *checker) solx(s api.Step) api.Errno {
	values, e := c.tells(s.Lits)
	switch {
	case e != api.OK:
		return e
	case c.told.has(values):
		return api.ErrCheckSoli
	}
	c.told.add(values, model.Worth(c.model, values))
	c.told.solxs++
	return c.addPlain(encode.Unlike(c.model, values))
}

// tells tells the solution that a step's literals tell.
func (c *checker) tells(lits []int) ([]int, api.Errno) {
	for _, l := range lits {
		if c.beyond(l) {
			return nil, api.ErrCheckLit
		}
	}
	values, ok := c.solution(lits)
	if !ok {
		return nil, api.ErrCheckSoli
	}
	return values, api.OK
}
