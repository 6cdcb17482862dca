package trim

import (
	"iter"
	"strconv"

	"hallmark/api"
)

// names gives where a step names rows by their ids, so that they can be read
// and given others.
func names(s api.Step) iter.Seq[*string] {
	return func(yield func(*string) bool) {
		for i := range s.Ops {
			if s.Ops[i].Kind == api.OpRow && !yield(&s.Ops[i].N) {
				return
			}
		}
		for i := range s.Ids {
			if !yield(&s.Ids[i]) {
				return
			}
		}
	}
}

// number reads an id that a row has.
func number(id string) int {
	n, _ := strconv.Atoi(id)
	return n
}
