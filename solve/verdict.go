package solve

import (
	"hallmark/api"
	"hallmark/model"
)

// worth tells that of the solution found last.
func (s *search) worth() int { return model.Worth(s.model, s.found) }

// conclude ends the log, the first node having ended so, and tells the verdict.
func (s *search) conclude(how int) api.Verdict {
	switch {
	case how == done && s.all:
		s.End(api.All, s.clause(), 0, s.count)
		return api.Verdict{Kind: api.All, Count: s.count}
	case how == done && s.count == 0:
		s.End(api.Unsat, s.clause(), 0, 0)
		return api.Verdict{Kind: api.Unsat}
	case how == done:
		return s.bounds(s.clause(), s.worth())
	case how == ended:
		s.End(api.Sat, 0, 0, 0)
		return api.Verdict{Kind: api.Sat, Values: s.found}
	case s.all || s.count == 0: // without a goal the first solution ends the search
		s.End(api.None, 0, 0, 0)
		return api.Verdict{Kind: api.None}
	}
	return s.bounds(0, model.Floor(s.model))
}

// bounds claims that no worth is below low, by the row of an id, or by the
// floor, if that is 0.
func (s *search) bounds(id, low int) api.Verdict {
	worth := s.worth()
	s.End(api.Bounds, id, low, worth)
	if low == worth {
		return api.Verdict{Kind: api.Best, Worth: worth, Values: s.found}
	}
	return api.Verdict{Kind: api.Bounds, Low: low, Worth: worth, Values: s.found}
}
