package text_test

import (
	"errors"
	"fmt"
	"testing"

	"hallmark/api"
	"hallmark/text"
)

func ExampleParse() {
	m, err := text.Parse("var x 0 3\nvar y -1 2\n# both\nlin <= 4 2 x -1 y\n")
	fmt.Println(m.Vars, m.Cons[0].Terms, m.Cons[0].K, err)
	_, err = text.Parse("var x 0 3\nlin < 4 1 x\n")
	var f *api.Fault
	if errors.As(err, &f) {
		fmt.Println(f.Line, f.Err == api.ErrTextWord)
	}
	// Output:
	// [{x 0 3} {y -1 2}] [{2 0} {-1 1}] 4 <nil>
	// 2 true
}

func ExamplePrint() {
	s, e := text.Print(api.Model{
		Vars: []api.Var{{Name: "x", Lo: 0, Hi: 3}, {Name: "y", Lo: -1, Hi: 2}},
		Cons: []api.Con{{Kind: api.Table, Xs: []int{0, 1}, Rows: [][]int{{0, 1}, {3, -1}}}},
	})
	fmt.Print(s, e, "\n")
	// Output:
	// var x 0 3
	// var y -1 2
	// table x y : 0 1 : 3 -1
	// hallmark: error 0
}

// TestExamples: the chapter's.
func TestExamples(t *testing.T) { // P5.1, P5.2
	const nine = "var x 0 3\nvar y -1 2\n# both\nlin <= 4 2 x -1 y\nne x y 1\nelement x y 2 0\nmax x y y\nreif x <= 1 1 x 1 y\nminimize 3 x -2 y"
	says(t, nine, api.Model{
		Vars: two().Vars,
		Cons: []api.Con{
			{Kind: api.Lin, Op: api.Le, K: 4, Terms: []api.Term{{C: 2, X: 0}, {C: -1, X: 1}}},
			{Kind: api.Ne, X: 0, Y: 1, K: 1},
			{Kind: api.Element, X: 0, Y: 1, Table: []int{2, 0}},
			{Kind: api.Max, Y: 0, Xs: []int{1, 1}},
			{Kind: api.Reif, X: 0, K: 1, Terms: []api.Term{{C: 1, X: 0}, {C: 1, X: 1}}},
		},
		HasGoal: true, Goal: []api.Term{{C: 3, X: 0}, {C: -2, X: 1}},
	})
	for _, c := range []struct {
		line string
		e    api.Errno
	}{
		{"lin < 4 1 x", api.ErrTextWord}, {"lin <= 04 1 x", api.ErrTextNumber}, {"lin <= 4 1", api.ErrTextShort}, {"lin <= 4 0 x", api.ErrModelCoef},
		{"lin <= 4 1 z", api.ErrTextUnknown}, {"ne x x 0 0", api.ErrTextRest}, {"var x 1 2", api.ErrTextTwice}, {"var y 3 2", api.ErrModelBounds},
	} {
		fails(t, "var x 0 3\n"+c.line, 2, c.e)
	}
	fails(t, "", 1, api.ErrTextEmpty)
	fails(t, "\n", 2, api.ErrTextEmpty)
}
