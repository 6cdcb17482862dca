package base

import (
	"cmp"
	"iter"
	"slices"

	"hallmark/api"
	"hallmark/big"
	"hallmark/pb"
)

// shelf: the rows that are there, by their ids. Of a row that was taken away
// nothing is kept in the long run: its id was given, and has no slot.
type shelf struct {
	slots []slot // rising by id
	empty int    // how many slots have no row any more
	given int    // the ids that rows ever had: 1 to given
}

type slot struct {
	id    int
	row   pb.Row
	there bool
}

func newShelf(rows []pb.Row) shelf {
	s := shelf{slots: make([]slot, 0, len(rows))}
	for _, r := range rows {
		s.Add(r)
	}
	return s
}

// Add adds a row: its id.
func (s *shelf) Add(r pb.Row) int {
	s.given++
	s.slots = append(s.slots, slot{s.given, r, true})
	return s.given
}

// Row tells the row of an id.
func (s *shelf) Row(id string) (pb.Row, api.Errno) {
	n, e := s.known(id)
	if e != api.OK {
		return pb.Row{}, e
	}
	at, there := s.find(n)
	if !there {
		return pb.Row{}, api.ErrBaseGone
	}
	return s.slots[at].row, api.OK
}

// Next tells the next id.
func (s *shelf) Next() int { return s.given + 1 }

// Len tells how many rows are there.
func (s *shelf) Len() int { return len(s.slots) - s.empty }

// All gives the rows that are there, by their ids.
func (s *shelf) All() iter.Seq2[int, pb.Row] {
	return func(yield func(int, pb.Row) bool) {
		for _, one := range s.slots {
			if one.there && !yield(one.id, one.row) {
				return
			}
		}
	}
}

// known reads an id that a row has or had.
func (s *shelf) known(id string) (int, api.Errno) {
	n, e := big.Parse(id)
	if e != api.OK {
		return 0, api.ErrBaseUnknown
	}
	small, ok := n.Small()
	if !ok || small < 1 || small > s.given {
		return 0, api.ErrBaseUnknown
	}
	return small, api.OK
}

// find tells the slot of an id, and whether its row is there.
func (s *shelf) find(id int) (int, bool) {
	at, has := slices.BinarySearchFunc(s.slots, id, func(one slot, id int) int { return cmp.Compare(one.id, id) })
	return at, has && s.slots[at].there
}

// take takes the row of an id that was given.
func (s *shelf) take(id int) api.Errno {
	at, there := s.find(id)
	if !there {
		return api.ErrBaseGone
	}
	s.slots[at] = slot{id: id}
	s.empty++
	if s.empty > s.Len() { // not at each row: closing up costs as much as there are slots
		*s = s.copied()
	}
	return api.OK
}

// copied tells the same shelf in new memory, without empty slots.
func (s *shelf) copied() shelf {
	c := shelf{slots: make([]slot, 0, s.Len()), given: s.given}
	for id, row := range s.All() {
		c.slots = append(c.slots, slot{id, row, true})
	}
	return c
}
