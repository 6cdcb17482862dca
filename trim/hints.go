package trim

import (
	"slices"
	"strconv"

	"hallmark/pb"
	"hallmark/unit"
)

// hints tells ids of rows by which alone a rup's row is shown, and of which none
// can be left out: of its hints, or of all rows that are there, if it has none.
// Of these it takes such as stay anyway, if they do: then no line stays for its
// sake.
func (l *ledger) hints(rup line) []string {
	wanted := l.row(rup.id).is
	if len(rup.step.Ids) > 0 {
		ids, _ := l.least(numbers(rup.step.Ids), wanted)
		return ids
	}
	if ids, shown := l.least(l.staying(), wanted); shown {
		return ids
	}
	ids, _ := l.least(l.there, wanted)
	return ids
}

// staying tells those rows that are there and stay, whatever else does.
func (l *ledger) staying() []int {
	var ids []int
	for _, id := range l.there {
		if l.bringer(id).stays() {
			ids = append(ids, id)
		}
	}
	return ids
}

// least tells, of ids, some whose rows show a row, and of which none can be left
// out; false: all of them don't show it.
func (l *ledger) least(ids []int, wanted pb.Row) ([]string, bool) {
	rows := make([]pb.Row, len(ids))
	for i, id := range ids {
		rows[i] = l.row(id).is
	}
	places, shown := unit.Why(rows, wanted)
	var some []string
	for _, at := range places {
		some = append(some, strconv.Itoa(ids[at]))
	}
	return some, shown
}

// numbers reads ids, and tells them rising. (One that is there twice can be left
// out once.)
func numbers(ids []string) []int {
	list := make([]int, len(ids))
	for i, id := range ids {
		list[i] = number(id)
	}
	slices.Sort(list)
	return list
}
