package solve

import (
	"hallmark/api"
	"hallmark/branch"
	"hallmark/dom"
	"hallmark/engine"
)

// search: nodes, worked through one behind the other. What writes the log is
// embedded in it.
type search struct {
	*scribe
	model  api.Model
	all    bool // all solutions are asked for, whatever their worth
	engine *engine.Engine
	script *branch.Script
	live   *dom.Store
	fuel   int
	count  int   // how many solutions were found
	found  []int // the last of them
}

func newSearch(m api.Model, fuel int, h []int, all bool) *search {
	return &search{
		scribe: newScribe(m),
		model:  m,
		all:    all,
		engine: engine.New(m),
		script: branch.New(h),
		live:   dom.New(m),
		fuel:   max(fuel, 0),
	}
}

// How a node ended.
const (
	done  = iota // nothing more is to be found in it
	ended        // a solution was found, and no other one is asked for
	out          // of fuel
)

// node works through the domains as they are. Behind done the rows of the log
// leave nothing of them to propagation from the decisions that stand.
func (s *search) node() int {
	for {
		switch s.prune() {
		case api.Out:
			return out
		case api.Failed:
			return done
		}
		if len(s.live.Open()) == 0 {
			return s.solution()
		}
		x, k, _ := branch.Pick(s.live, s.script.Next())
		if how := s.lower(api.Cut{Kind: api.AtMost, X: x, V: k - 1}); how != done {
			return how
		}
		upper := api.Cut{Kind: api.AtLeast, X: x, V: k}
		s.live.Cut(upper)
		s.told.Cut(upper) // the row that refutes the lower part says it
	}
}

// prune pays for a node, and runs the constraints: how that ended.
func (s *search) prune() int {
	if s.fuel == 0 {
		return api.Out
	}
	causes, left, how := s.engine.Run(s.live, s.fuel-1)
	s.fuel = left
	s.tell(causes)
	if how == api.Failed {
		s.explain(s.engine.Cause())
	}
	return how
}

// lower works through the lower part of a domain.
func (s *search) lower(c api.Cut) int {
	mark, part := s.live.Mark(), s.suppose(c)
	s.live.Cut(c)
	how := s.node()
	if how == done {
		s.refute(part)
		s.live.Back(mark)
	}
	return how
}

// solution takes the values that are left, one a variable.
func (s *search) solution() int {
	s.found = make([]int, s.live.Vars())
	for x := range s.found {
		s.found[x] = s.live.Lo(x)
	}
	s.count++
	switch {
	case s.all:
		s.exclude(s.found)
		return done
	case s.model.HasGoal:
		s.outdo(s.found)
		s.engine.Below(s.worth())
		return done
	}
	s.Soli(s.Solution(s.found))
	return ended
}
