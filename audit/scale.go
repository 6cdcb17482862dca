package audit

import "hallmark/api"

// kinds: of each kind of step how many there are, at its kind's place.
type kinds [api.StepSame + 1]int

// rows tells how many of the steps add a row whatever the problem is.
func (k *kinds) rows() int {
	return k[api.StepPol] + k[api.StepRup] + k[api.StepSolx]
}

func (k *kinds) steps() int {
	n := 0
	for _, some := range k {
		n += some
	}
	return n
}

// scale: a log that is being weighed, line by line.
type scale struct {
	kinds
	gone, peak, longest int
}

func (s *scale) lay(line string, step api.Step) {
	s.kinds[step.Kind]++
	if step.Kind == api.StepDel { // other steps name ids, too
		s.gone += len(step.Ids)
	}
	s.peak = max(s.peak, s.rows()-s.gone)
	s.longest = max(s.longest, len(line))
}

// weight tells what was weighed; each line is one step, an empty one a remark.
func (s *scale) weight(bytes int) api.Weight {
	return api.Weight{
		Lines:   s.steps(),
		Bytes:   bytes,
		Rows:    s.rows(),
		Gone:    s.gone,
		Peak:    s.peak,
		Longest: s.longest,
		Kinds:   s.kinds,
	}
}
