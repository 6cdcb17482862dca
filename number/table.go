package number

import "hallmark/api"

// table: of a Table, the number of its first row, its variables, its rows; of
// another constraint nothing.
type table struct {
	first int
	xs    []int
	rows  []entry
}

// entry: a row, or values of a Table's variables; zeros behind them.
type entry [api.MaxCols]int

func entries(rows [][]int) []entry {
	list := make([]entry, len(rows))
	for r, row := range rows {
		copy(list[r][:], row)
	}
	return list
}

// tell makes the literals of those rows true that the values are.
func (t table) tell(lits, values []int) {
	var here entry
	for i, x := range t.xs {
		here[i] = values[x]
	}
	for r, row := range t.rows {
		if row == here {
			affirm(lits, t.first+r)
		}
	}
}
