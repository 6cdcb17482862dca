package write

import "hallmark/api"

// ids: the ids that rows have by now: 1 to last.
type ids struct{ last int }

// Next tells the id that the next row has.
func (n *ids) Next() int { return n.last + 1 }

// number gives the row that a step adds its id, if lay lays the step down.
func (n *ids) number(lay func(...api.Step) api.Errno, s api.Step) (int, api.Errno) {
	if e := lay(s); e != api.OK {
		return 0, e
	}
	n.last = n.Next()
	return n.last, api.OK
}
