package engine

import (
	"hallmark/api"
	"hallmark/dom"
)

// rule: a constraint at its place.
type rule struct {
	kind
	con   api.Con
	place int
}

func ruleOf(c api.Con, place int) rule { return rule{kindOf(c), c, place} }

// call does what the rule tells of a store as it is: the cuts that took
// something out; false: it failed, and how.
func (r rule) call(s *dom.Store) ([]api.Cause, api.Cause, bool) {
	told, ok := r.cuts(r.con, s)
	if !ok {
		return nil, api.Cause{Con: r.place, Hall: r.blame(r.con, s)}, false
	}
	var done []api.Cause
	for _, c := range told {
		c.Con = r.place
		went, ok := s.Cut(c.Cut)
		if !ok {
			return done, c, false
		}
		if went {
			done = append(done, c)
		}
	}
	return done, api.Cause{}, true
}
