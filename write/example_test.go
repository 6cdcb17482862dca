package write_test

import (
	"fmt"
	"testing"

	"hallmark/api"
	"hallmark/check"
	"hallmark/write"
)

func ExampleNew() {
	w := write.New(2, false)
	id, _ := w.Rup(api.Row{Pieces: []api.Piece{{C: "1", L: 1}}, Degree: "1"}, nil)
	fmt.Println(id, w.Next())
	fmt.Print(w.Text())
	// Output:
	// 3 4
	// pseudo-Boolean proof version 2.0
	// f 2
	// rup 1 x1 >= 1 ;
}

func ExampleLog_End() {
	w := write.New(3, true) // of x from 0 to 3, at least 2, with the goal x
	less, _ := w.Soli([]int{2, -3})
	none, _ := w.Pol([]api.Op{{Kind: api.OpRow, N: "3"}, {Kind: api.OpRow, N: fmt.Sprint(less)}, {Kind: api.OpAdd}})
	fmt.Println(w.End(api.Bounds, none, 2, 2) == api.OK, w.Note() == api.ErrWriteOver)
	v, err := check.Check("var x 0 3\nlin >= 2 1 x\nminimize 1 x\n", w.Text())
	fmt.Println(v.Kind == api.Best, v.Worth, v.Values, err)
	// Output:
	// true true
	// true 2 [2] <nil>
}

// TestExample: the chapter's.
func TestExample(t *testing.T) { // P16.1 to P16.4
	w := write.New(2, false)
	say(t, w, rup(clause(1)), 3, api.OK)
	say(t, w, pol(of("3"), of("2"), api.Op{Kind: api.OpAdd}), 4, api.OK)
	say(t, w, del(3), 0, api.OK)
	say(t, w, end(api.Unsat, 4, 0, 0), 0, api.OK)
	reads(t, w, "f 2", "rup 1 x1 >= 1 ;", "pol 3 2 +", "del id 3", "output NONE", "conclusion UNSAT : 4", "end pseudo-Boolean proof")
	say(t, w, rup(clause(1)), 0, api.ErrWriteOver)
}
