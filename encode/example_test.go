package encode_test

import (
	"fmt"
	"slices"
	"strings"
	"testing"

	"hallmark/api"
	"hallmark/encode"
)

// show writes a row as the chapter does.
func show(r api.Row) string {
	var words []string
	for _, p := range r.Pieces {
		words = append(words, p.C+" "+strings.Replace(fmt.Sprint("x", p.L), "x-", "~x", 1))
	}
	return strings.Join(append(words, "at least "+r.Degree), " ")
}

func shown(rows []api.Row) []string {
	var list []string
	for _, r := range rows {
		list = append(list, show(r))
	}
	return list
}

// same: a nil list is like an empty one.
func same(a, b api.Row) bool { return a.Degree == b.Degree && slices.Equal(a.Pieces, b.Pieces) }

// rowsOf asks that a problem has rows.
func rowsOf(t *testing.T, m api.Model) []api.Row {
	t.Helper()
	rows, e := encode.Rows(m)
	if e != api.OK {
		t.Fatalf("Rows(%+v): %d", m, e)
	}
	return rows
}

func ExampleRows() {
	m := two(api.Con{Kind: api.Lin, Op: api.Le, Terms: terms(2, 0, -1, 1), K: 4})
	rows, e := encode.Rows(m)
	for i, r := range rows {
		fmt.Println(i+1, show(r), "of", encode.Owner(m, i+1))
	}
	fmt.Println(e == api.OK)
	// Output:
	// 1 1 x1 1 ~x2 at least 1 of -1
	// 2 1 x2 1 ~x3 at least 1 of -1
	// 3 1 x4 1 ~x5 at least 1 of -1
	// 4 1 x5 1 ~x6 at least 1 of -1
	// 5 2 ~x1 2 ~x2 2 ~x3 1 x4 1 x5 1 x6 at least 3 of 0
	// true
}

func ExampleLess() {
	m := withGoal(two(), terms(3, 0, -2, 1)...)
	less, _ := encode.Less(m, 5)
	least, _ := encode.AtLeast(m, "5")
	other, _ := encode.Unlike(m, []int{2, -1})
	fmt.Println(show(less))
	fmt.Println(show(least))
	fmt.Println(show(other))
	// Output:
	// 3 ~x1 3 ~x2 3 ~x3 2 x4 2 x5 2 x6 at least 7
	// 3 x1 3 x2 3 x3 2 ~x4 2 ~x5 2 ~x6 at least 9
	// 1 ~x2 1 x3 1 x4 at least 1
}

// TestExamples: the chapter's, and of the other kinds one each.
func TestExamples(t *testing.T) { // P7.1, P7.2
	for _, e := range []struct {
		c    api.Con
		want []string
	}{
		{api.Con{Kind: api.Lin, Op: api.Le, Terms: terms(2, 0, -1, 1), K: 4}, []string{"2 ~x1 2 ~x2 2 ~x3 1 x4 1 x5 1 x6 at least 3"}},
		{api.Con{Kind: api.Ne, X: 0, Y: 1, K: 1}, []string{"1 x1 1 x4 at least 1", "1 ~x1 1 x2 1 ~x4 1 x5 at least 1", "1 ~x2 1 x3 1 ~x5 1 x6 at least 1", "1 ~x3 1 ~x6 at least 1"}},
		{api.Con{Kind: api.Element, X: 0, Y: 1, Table: []int{2, 0}}, []string{"1 ~x2 at least 1", "1 x1 1 x6 at least 1", "1 ~x1 1 x2 1 x4 at least 1", "1 ~x1 1 x2 1 ~x5 at least 1"}},
		{api.Con{Kind: api.Max, Y: 1, Xs: []int{0}}, []string{"1 x4 at least 1", "1 ~x1 1 x5 at least 1", "1 x1 1 ~x5 at least 1", "1 ~x2 1 x6 at least 1", "1 x2 1 ~x6 at least 1", "1 ~x3 at least 1"}},
		{api.Con{Kind: api.Min, Y: 1, Xs: []int{0, 0}}, []string{"1 x4 at least 1", "1 x1 1 ~x5 at least 1", "1 x1 1 ~x5 at least 1", "1 ~x1 1 x5 at least 1", "1 x2 1 ~x6 at least 1", "1 x2 1 ~x6 at least 1", "1 ~x2 1 x6 at least 1", "1 ~x3 at least 1"}},
		{api.Con{Kind: api.Table, Xs: []int{0, 1}, Rows: [][]int{{0, 1}, {9, -1}}}, []string{"1 x7 1 x8 at least 1", "1 ~x1 1 ~x7 at least 1", "1 x5 1 ~x7 at least 1", "1 ~x6 1 ~x7 at least 1", "1 ~x8 at least 1", "1 ~x4 1 ~x8 at least 1"}},
		{api.Con{Kind: api.Reif, X: 0, Terms: terms(1, 0, 1, 1), K: 1}, []string{"1 ~x2 at least 1", "5 ~x1 1 ~x2 1 ~x3 1 ~x4 1 ~x5 1 ~x6 at least 4", "4 x1 1 x2 1 x3 1 x4 1 x5 1 x6 at least 3"}},
	} {
		want := append([]string{"1 x1 1 ~x2 at least 1", "1 x2 1 ~x3 at least 1", "1 x4 1 ~x5 at least 1", "1 x5 1 ~x6 at least 1"}, e.want...)
		if got := shown(rowsOf(t, two(e.c))); !slices.Equal(got, want) {
			t.Errorf("kind %d: %q, want %q", e.c.Kind, got, want)
		}
	}
	pieces, offset := encode.Goal(withGoal(two(), terms(3, 0, -2, 1)...))
	if fmt.Sprint(pieces) != "[{3 1} {3 2} {3 3} {-2 4} {-2 5} {-2 6}]" || offset != "2" {
		t.Errorf("Goal: %v, %s", pieces, offset)
	}
}
