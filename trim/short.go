package trim

import (
	"slices"
	"sort"
	"strconv"

	"hallmark/api"
	"hallmark/encode"
)

// shortened tells the steps of the lines that stay, and of the problem's rows
// those that they name; ids are as these lines give them.
func (l *ledger) shortened() ([]api.Step, []int) {
	ids := make([]int, len(l.rows)+1)
	for id := range l.laid + 1 {
		ids[id] = id
	}
	next := l.laid + 1
	var steps []api.Step
	var laid []int
	for _, one := range l.lines {
		if !one.stays() {
			continue
		}
		if one.id > 0 {
			ids[one.id] = next
			next++
		}
		for id := range names(one.step) {
			n := ids[number(*id)]
			if n <= l.laid {
				laid = append(laid, n)
			}
			*id = strconv.Itoa(n)
		}
		steps = append(steps, one.step)
	}
	return steps, laid
}

// source: a row of the problem: the place of the constraint that owns it (-1:
// none does), and its id.
type source struct{ owner, id int }

// sources tells the rows of some ids, rising, each once. The rows of a
// constraint follow one another: not each of them is asked for its owner.
func sources(m api.Model, ids []int) []source {
	slices.Sort(ids)
	var all []source
	for len(ids) > 0 {
		owner := encode.Owner(m, ids[0])
		end := sort.Search(len(ids), func(i int) bool { return encode.Owner(m, ids[i]) != owner })
		for _, id := range ids[:end] {
			all = append(all, source{owner, id})
		}
		ids = ids[end:]
	}
	return slices.Compact(all)
}

// owners tells the places of the constraints that own some of the rows.
func owners(rows []source) []int {
	var places []int
	for _, r := range rows {
		if r.owner >= 0 {
			places = append(places, r.owner)
		}
	}
	return slices.Compact(places)
}
