package unit_test

import (
	"fmt"
	"testing"

	"hallmark/pb"
	"hallmark/unit"
)

func ExampleWhy() {
	var all []pb.Row
	for _, lits := range [][]int{{1, 2}, {-1, 3}, {-1, -3}} {
		c, _ := pb.Clause(lits)
		all = append(all, c)
	}
	x2, _ := pb.Clause([]int{2})
	fmt.Println(unit.Run(all, []int{-1}))
	fmt.Println(unit.Run(all, []int{-2}))
	fmt.Println(unit.Shows(all, x2))
	fmt.Println(unit.Why(all, x2))
	// Output:
	// [-1 2] true
	// [] false
	// true
	// [0 1 2] true
}

// TestExamples: the chapter's.
func TestExamples(t *testing.T) { // P3.1, P3.3, P3.4
	all := rows(t, three)
	x1, x2, r := row(t, "1 x1 >= 1"), row(t, "1 x2 >= 1"), row(t, "2 ~x3 1 x4 >= 2")
	for i, c := range []struct{ got, want string }{
		{fmt.Sprint(unit.Run(all, []int{-2})), "[] false"}, {fmt.Sprint(unit.Run(all, []int{2})), "[2] true"},
		{fmt.Sprint(unit.Shows(all, x2)), "true"}, {fmt.Sprint(unit.Why(all, x2)), "[0 1 2] true"}, {fmt.Sprint(unit.Shows(all, x1)), "false"},
		{unit.Slack(r, nil).Text(), "1"}, {unit.Slack(r, []int{3}).Text(), "-1"}, {fmt.Sprint(unit.Run([]pb.Row{r}, nil)), "[-3] true"},
		{fmt.Sprint(unit.Shows(all, pb.Row{})), "true"}, {fmt.Sprint(unit.Why(all, pb.Row{})), "[] true"},
	} {
		if c.got != c.want {
			t.Errorf("example %d: %s, want %s", i, c.got, c.want)
		}
	}
}
