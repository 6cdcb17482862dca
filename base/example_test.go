package base_test

import (
	"fmt"
	"testing"

	"hallmark/api"
	"hallmark/base"
	"hallmark/pb"
)

func ExampleBase() {
	one, _ := pb.Clause([]int{1, 2})
	other, _ := pb.Clause([]int{-1})
	b := base.New([]pb.Row{one, other})
	sum, e := b.Pol([]api.Op{{Kind: api.OpRow, N: "1"}, {Kind: api.OpRow, N: "2"}, {Kind: api.OpAdd}})
	if e != api.OK {
		return
	}
	fmt.Println(sum.Plain(), b.Rup(sum))
	fmt.Println(b.Add(sum))
	fmt.Println(b.Drop("3") == api.OK, b.Drop("3") == api.ErrBaseGone)
	for id, r := range b.All() {
		fmt.Println(id, r.Plain())
	}
	// Output:
	// {[{1 2}] 1} true
	// 3
	// true true
	// 1 {[{1 1} {1 2}] 1}
	// 2 {[{1 -1}] 1}
}

// TestExamples: the chapter's.
func TestExamples(t *testing.T) { // P9.1 to P9.4
	b := base.New(rows(t, two))
	it, e := b.Pol(ops("1 2 +"))
	if text(it) != "1 x2 >= 1" || e != api.OK {
		t.Errorf("P9.3: Pol(1, 2, +): %s, %d", text(it), e)
	}
	row := func(id string) api.Errno { _, e := b.Row(id); return e }
	pol := func(s string) api.Errno { _, e := b.Pol(ops(s)); return e }
	for i, c := range []struct{ got, want string }{
		{fmt.Sprint(b.Rup(it)), "true"}, {fmt.Sprint(b.RupOf(it, []string{"2", "1"})), fmt.Sprint(true, api.OK)}, {fmt.Sprint(b.RupOf(it, []string{"1"})), fmt.Sprint(false, api.OK)}, {fmt.Sprint(b.RupOf(it, []string{"1", "9"})), fmt.Sprint(false, api.ErrBaseUnknown)},
		{fmt.Sprint(b.Add(it)), "3"}, {fmt.Sprint(b.Drop("1")), fmt.Sprint(api.ErrBaseKept)}, {fmt.Sprint(b.Drop("3")), fmt.Sprint(api.OK)}, {fmt.Sprint(b.Drop("3")), fmt.Sprint(api.ErrBaseGone)}, {fmt.Sprint(row("3")), fmt.Sprint(api.ErrBaseGone)},
		{fmt.Sprint(row("4"), row("0"), row("x"), row("03")), fmt.Sprint(api.ErrBaseUnknown, api.ErrBaseUnknown, api.ErrBaseUnknown, api.ErrBaseUnknown)},
		{fmt.Sprint(b.Next()), "4"}, {fmt.Sprint(b.Len()), "2"},
		{fmt.Sprint(pol("1 2"), pol("+"), pol("")), fmt.Sprint(api.ErrBaseStack, api.ErrBaseStack, api.ErrBaseStack)},
	} {
		if c.got != c.want {
			t.Errorf("example %d: %s, want %s", i, c.got, c.want)
		}
	}
}
