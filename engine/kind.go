package engine

import (
	"hallmark/api"
	"hallmark/dom"
	"hallmark/hall"
	"hallmark/prop"
)

// kind: how a kind of constraints prunes. cuts tells what goes, the place of
// the constraint left out; false: it can't hold. blame tells the interval by
// which it can't.
type kind struct {
	cuts  func(c api.Con, s *dom.Store) ([]api.Cause, bool)
	blame func(c api.Con, s *dom.Store) api.Hall
}

// kindOf: all kinds but AllDiff are alike here.
func kindOf(c api.Con) kind {
	if c.Kind == api.AllDiff {
		return kind{differentCuts, differentBlame}
	}
	return kind{plainCuts, plainBlame}
}

func plainCuts(c api.Con, s *dom.Store) ([]api.Cause, bool) {
	cuts, ok := prop.Cuts(c, s)
	var out []api.Cause
	for _, cut := range cuts {
		out = append(out, api.Cause{Cut: cut})
	}
	return out, ok
}

func plainBlame(api.Con, *dom.Store) api.Hall { return api.Hall{} }

func differentCuts(c api.Con, s *dom.Store) ([]api.Cause, bool) { return hall.Cuts(c.Xs, s) }

func differentBlame(c api.Con, s *dom.Store) api.Hall {
	h, _ := hall.Fails(c.Xs, s)
	return h
}
