package branch

import "slices"

// list: the numbers that are still to be given, one behind the other.
type list struct{ left []int }

// listOf takes the numbers as they are now, whatever becomes of them.
func listOf(h []int) list { return list{slices.Clone(h)} }

// Next tells the next number; behind the last one 0.
func (l *list) Next() int {
	if len(l.left) == 0 {
		return 0
	}
	n := l.left[0]
	l.left = l.left[1:]
	return n
}
