package base_test

import (
	"fmt"
	"slices"
	"strconv"
	"strings"
	"testing"

	"hallmark/api"
	"hallmark/base"
	"hallmark/pb"
)

func TestIdsInTheirOrder(t *testing.T) { // P9.1
	none := base.New(nil)
	if standing(none) != "0 there, then 1; >= 0 90; >= 0 90;" || standing(base.New([]pb.Row{})) != standing(none) {
		t.Errorf("P9.1: of no rows: %s", standing(none))
	}
	if id := none.Add(row(t, "1 x1 >= 1")); id != 1 || none.Next() != 2 || none.Len() != 1 || told(none) != "1: 1 x1 >= 1; " {
		t.Errorf("P9.1: the first row: %d, then %d, %s", id, none.Next(), told(none))
	}
	b := base.New(rows(t, "1 x1 >= 1; 1 x1 >= 1; >= 0"))
	if b.Next() != 4 || b.Len() != 3 || told(b) != "1: 1 x1 >= 1; 2: 1 x1 >= 1; 3: >= 0; " {
		t.Errorf("P9.1: like rows: %s, then %d", told(b), b.Next())
	}
	for i := range 100 {
		if want := b.Next(); b.Add(row(t, "1 x2 >= 1")) != want || want != i+4 || b.Len() != i+4 {
			t.Fatalf("P9.1: row %d: then %d, %d there", want, b.Next(), b.Len())
		}
	}
}

// TestWrongIds: an id is a number in decimal, of a row that ever was.
func TestWrongIds(t *testing.T) { // P9.2
	b := base.New(rows(t, two))
	b.Add(row(t, "1 x3 >= 1"))
	b.Add(row(t, "1 x4 >= 1"))
	b.Drop("3")
	was := standing(b)
	wrong := []string{"", "0", "-0", "00", "-1", "-2", "5", "6", "01", "04", "+1", " 1", "1 ", "1\n", "1\x00", "x", "x1", "~x1", "1.0", "1e0", "0x1", "1_0", "one", "１", "\xff", "--1", "-", "+",
		"2147483649", "4294967297", "4294967300", "9223372036854775807", "9223372036854775808", "-9223372036854775808", "18446744073709551616", "18446744073709551617", "18446744073709551620", "-18446744073709551615", "1" + strings.Repeat("0", 5000), strings.Repeat("0", 5000) + "1", "10", "1,2"}
	for _, id := range wrong {
		if r, e := b.Row(id); e != api.ErrBaseUnknown || !pb.Same(r, pb.Row{}) {
			t.Errorf("P9.2: Row(%.30q): %s, %d", id, text(r), e)
		}
		if e := b.Drop(id); e != api.ErrBaseUnknown {
			t.Errorf("P9.2: Drop(%.30q): %d", id, e)
		}
		if ok, e := b.RupOf(pb.Row{}, []string{"1", id}); ok || e != api.ErrBaseUnknown {
			t.Errorf("P9.4: RupOf(%.30q): %v, %d", id, ok, e)
		}
		if r, e := b.Pol([]api.Op{{Kind: api.OpRow, N: id}}); e != api.ErrBaseUnknown || !pb.Same(r, pb.Row{}) {
			t.Errorf("P9.3: Pol(%.30q): %s, %d", id, text(r), e)
		}
	}
	if standing(b) != was {
		t.Errorf("P9.2: %s, then %s", was, standing(b))
	}
}

func TestDrop(t *testing.T) { // P9.2
	b := base.New(rows(t, two))
	for i := range 4 {
		b.Add(row(t, fmt.Sprintf("1 x%d >= 1", 3+i)))
	}
	for _, c := range []struct {
		id   string
		want api.Errno
		left string
	}{
		{"4", api.OK, "[1 2 3 5 6]"}, {"4", api.ErrBaseGone, "[1 2 3 5 6]"}, {"1", api.ErrBaseKept, "[1 2 3 5 6]"}, {"2", api.ErrBaseKept, "[1 2 3 5 6]"}, {"7", api.ErrBaseUnknown, "[1 2 3 5 6]"},
		{"3", api.OK, "[1 2 5 6]"}, {"6", api.OK, "[1 2 5]"}, {"3", api.ErrBaseGone, "[1 2 5]"}, {"6", api.ErrBaseGone, "[1 2 5]"}, {"5", api.OK, "[1 2]"}, {"5", api.ErrBaseGone, "[1 2]"}, {"4", api.ErrBaseGone, "[1 2]"}, {"7", api.ErrBaseUnknown, "[1 2]"}, {"1", api.ErrBaseKept, "[1 2]"},
	} {
		e := b.Drop(c.id)
		var left []int
		for id := range b.All() {
			left = append(left, id)
		}
		if e != c.want || fmt.Sprint(left) != c.left || b.Len() != len(left) || b.Next() != 7 {
			t.Errorf("P9.2: Drop(%s): %d, left %v, %d there, then %d; want %d, %s", c.id, e, left, b.Len(), b.Next(), c.want, c.left)
		}
	}
	if id := b.Add(row(t, "1 x9 >= 1")); id != 7 || told(b) != "1: 1 x1 1 x2 >= 1; 2: 1 ~x1 >= 1; 7: 1 x9 >= 1; " {
		t.Errorf("P9.1: behind what was dropped: %d, %s", id, told(b))
	}
}

// TestAsTold holds bases against ledgers, step by step.
func TestAsTold(t *testing.T) { // P9.1, P9.2, P9.4
	s := newSource()
	found := map[api.Errno]int{}
	for range 300 {
		first := s.rows(t, 4)
		b, l := base.New(first), &ledger{}
		for _, r := range first {
			l.add(r)
		}
		l.kept = len(first)
		for range 25 {
			if s.Intn(2) == 0 {
				r := s.row(t)
				if id, want := b.Add(r), l.add(r); id != want {
					t.Fatalf("P9.1: Add: %d, want %d", id, want)
				}
			} else {
				id := s.id(b)
				e, want := b.Drop(id), l.drop(id)
				if found[e]++; e != want {
					t.Fatalf("P9.2: %s: Drop(%q): %d, want %d", standing(b), id, e, want)
				}
			}
			if s.Intn(20) == 0 {
				b = b.Copy()
			}
			if standing(b) != l.standing() {
				t.Fatalf("P9.1, P9.2: %s, want %s", standing(b), l.standing())
			}
			if r := s.row(t); b.Rup(r) != l.rup(r) {
				t.Fatalf("P9.4: %s: Rup(%s) isn't %v", standing(b), text(r), l.rup(r))
			}
		}
	}
	for _, e := range []api.Errno{api.OK, api.ErrBaseUnknown, api.ErrBaseGone, api.ErrBaseKept} {
		if found[e] < 20 {
			t.Errorf("P9.2: error %d: only %d times", e, found[e])
		}
	}
}

// TestManyComeAndGo: rows go in all orders, and what is left is found.
func TestManyComeAndGo(t *testing.T) { // P9.1, P9.2
	const many = 20000
	s := newSource()
	for name, order := range map[string][]int{"rising": nil, "falling": nil, "mixed": s.Perm(many)} {
		b := base.New(rows(t, two))
		for i := range many {
			r, _ := pb.Lit(i + 1)
			b.Add(r)
		}
		left := many
		for i := range many - 5 {
			at := i
			switch name {
			case "falling":
				at = many - 1 - i
			case "mixed":
				at = order[i]
			}
			id := strconv.Itoa(at + 3)
			r, e := b.Row(id)
			if left--; r.Greatest() != at+1 || e != api.OK || b.Drop(id) != api.OK || b.Drop(id) != api.ErrBaseGone || b.Len() != left+2 {
				t.Fatalf("P9.2: %s: row %s: %s, %d, %d there", name, id, text(r), e, b.Len())
			}
		}
		n, last := 0, 0
		for id, r := range b.All() {
			if id <= last || id > 2 && r.Greatest() != id-2 {
				t.Errorf("P9.1: %s: %d behind %d: %s", name, id, last, text(r))
			}
			n, last = n+1, id
		}
		if n != 7 || b.Next() != many+3 {
			t.Errorf("P9.1: %s: %d left, then %d", name, n, b.Next())
		}
	}
}

func TestRupOf(t *testing.T) { // P9.4
	b := base.New(rows(t, two))
	b.Add(row(t, "1 ~x2 1 x3 >= 1"))
	b.Add(row(t, "1 x7 >= 1"))
	b.Drop("4")
	for _, c := range []struct {
		row  string
		ids  string
		ok   bool
		want api.Errno
	}{
		{"1 x2 >= 1", "2 1", true, api.OK}, {"1 x2 >= 1", "1 2", true, api.OK}, {"1 x2 >= 1", "1 1 2 2 1", true, api.OK}, {"1 x2 >= 1", "1", false, api.OK}, {"1 x2 >= 1", "1 1", false, api.OK}, {"1 x2 >= 1", "", false, api.OK}, {">= 0", "", true, api.OK}, {">= 0", "1", true, api.OK}, {">= 1", "1 2 3", false, api.OK},
		{"1 x3 >= 1", "1 2", false, api.OK}, {"1 x3 >= 1", "1 2 3", true, api.OK}, {"1 x3 >= 1", "3 2 1", true, api.OK}, {"1 x3 >= 1", "3 2", false, api.OK},
		{"1 x2 >= 1", "1 2 4", false, api.ErrBaseGone}, {"1 x2 >= 1", "4 9", false, api.ErrBaseGone}, {"1 x2 >= 1", "9 4", false, api.ErrBaseUnknown}, {"1 x2 >= 1", "1 2 5", false, api.ErrBaseUnknown}, {">= 0", "1 4", false, api.ErrBaseGone},
	} {
		if ok, e := b.RupOf(row(t, c.row), strings.Fields(c.ids)); ok != c.ok || e != c.want {
			t.Errorf("P9.4: RupOf(%s; %s): %v, %d, want %v, %d", c.row, c.ids, ok, e, c.ok, c.want)
		}
	}
	s := newSource()
	found := map[string]int{}
	for range 6000 {
		b := s.base(t)
		l, r, ids := asLedger(b), s.row(t), s.ids(b)
		ok, e := b.RupOf(r, ids)
		found[fmt.Sprint(ok, int(e))]++
		if want, wantE := l.rupOf(r, ids); ok != want || e != wantE {
			t.Fatalf("P9.4: %s: RupOf(%s; %q): %v, %d, want %v, %d", told(b), text(r), ids, ok, e, want, wantE)
		}
	}
	for _, kind := range []string{"true 0", "false 0", "false 90", "false 91"} {
		if found[kind] < 50 {
			t.Errorf("P9.4: too few to tell: %v", found)
		}
	}
}

// asLedger tells a base that isn't changed any more as a ledger.
func asLedger(b *base.Base) *ledger {
	l := &ledger{}
	for id := 1; id < b.Next(); id++ {
		r, e := b.Row(strconv.Itoa(id))
		l.rows, l.gone = append(l.rows, r), append(l.gone, e == api.ErrBaseGone)
	}
	return l
}

func TestRup(t *testing.T) { // P9.4
	b := base.New(rows(t, two))
	x2, x7 := row(t, "1 x2 >= 1"), row(t, "1 x7 1 x9 >= 1")
	if !b.Rup(x2) || b.Rup(x7) || !b.Rup(pb.Row{}) || b.Rup(row(t, ">= 1")) {
		t.Errorf("P9.4: Rup of New's")
	}
	b.Add(row(t, "1 x7 >= 1"))
	if !b.Rup(x7) {
		t.Errorf("P9.4: Rup with a row that was added")
	}
	b.Drop("3")
	if b.Rup(x7) {
		t.Errorf("P9.4: Rup with a row that was dropped")
	}
	if none := base.New(nil); none.Rup(x2) || !none.Rup(pb.Row{}) {
		t.Errorf("P9.4: Rup of no rows")
	}
	b.Add(row(t, "1 ~x2 >= 1"))
	if !b.Rup(row(t, ">= 1")) || !b.Rup(x7) {
		t.Errorf("P9.4: Rup of rows that can't hold")
	}
}

func TestCopiesStandAlone(t *testing.T) { // P9.4
	s := newSource()
	for range 500 {
		b := s.base(t)
		c := b.Copy()
		was := standing(b)
		if standing(c) != was {
			t.Fatalf("P9.4: %s, its copy %s", was, standing(c))
		}
		r := s.row(t)
		if id := c.Add(r); id != b.Next() || standing(b) != was {
			t.Fatalf("P9.4: the copy's next row: %d; %s, then %s", id, was, standing(b))
		}
		then := standing(c)
		b.Add(row(t, "1 x99 >= 1"))
		for id := range b.Next() {
			b.Drop(strconv.Itoa(id))
		}
		if standing(c) != then {
			t.Fatalf("P9.4: the copy: %s, then %s", then, standing(c))
		}
		was = standing(b)
		for id := range c.Next() {
			e, again := c.Drop(strconv.Itoa(id)), c.Copy().Drop(strconv.Itoa(id))
			if e == api.OK && again != api.ErrBaseGone || e != api.OK && again != e {
				t.Fatalf("P9.4: Drop(%d): %d; of the copy's copy: %d", id, e, again)
			}
		}
		if standing(b) != was {
			t.Fatalf("P9.4: %s, then %s", was, standing(b))
		}
	}
}

// TestGoneThrough: DOC.md's rule 7.
func TestGoneThrough(t *testing.T) { // P9.1
	first := rows(t, two)
	b := base.New(first)
	all := b.All()
	clear(first)
	b.Add(row(t, "1 x3 >= 1"))
	b.Add(row(t, "1 x4 >= 1"))
	b.Drop("3")
	for range 2 {
		var got []int
		for id := range all {
			got = append(got, id)
		}
		if !slices.Equal(got, []int{1, 2, 4}) {
			t.Errorf("rule 7: %v", got)
		}
	}
	for left := range 4 {
		var got []int
		for id := range all {
			if got = append(got, id); len(got) > left {
				break
			}
		}
		if !slices.Equal(got, []int{1, 2, 4}[:min(left+1, 3)]) {
			t.Errorf("rule 7: left at %d: %v", left, got)
		}
	}
	pairs := ""
	for id := range all {
		for other, r := range all {
			pairs += fmt.Sprint(id, other, len(r.Plain().Pieces), " ")
		}
	}
	if pairs != "1 1 2 1 2 1 1 4 1 2 1 2 2 2 1 2 4 1 4 1 2 4 2 1 4 4 1 " {
		t.Errorf("rule 7: within itself: %s", pairs)
	}
	if base.New(nil).All() == nil {
		t.Errorf("rule 2: nil")
	}
	for id := range base.New(nil).All() {
		t.Errorf("P9.1: of no rows: %d", id)
	}
}

// TestNothingIsTouched: DOC.md's rule 3, of lists with spare room.
func TestNothingIsTouched(t *testing.T) { // P9.1, P9.3, P9.4
	room := rows(t, two+"; 1 x8 >= 1; 1 x9 >= 1")
	b := base.New(room[:2])
	b.Add(row(t, "1 x3 >= 1"))
	b.Copy().Add(row(t, "1 x4 >= 1"))
	b.Drop("3")
	for i, want := range rows(t, two+"; 1 x8 >= 1; 1 x9 >= 1") {
		if !pb.Same(room[i], want) {
			t.Errorf("rule 3: New: row %d is %s", i, text(room[i]))
		}
	}
	ids := []string{"1", "2", "x", "y"}
	b.RupOf(row(t, "1 x2 >= 1"), ids[:2])
	if !slices.Equal(ids, []string{"1", "2", "x", "y"}) {
		t.Errorf("rule 3: RupOf: %q", ids)
	}
	list := ops("1 2 + 3 * 2 d x1 w s 1 2")
	b.Pol(list[:7])
	if !slices.Equal(list, ops("1 2 + 3 * 2 d x1 w s 1 2")) {
		t.Errorf("rule 3: Pol: %v", list)
	}
	r, _ := b.Row("1")
	plain := r.Plain()
	plain.Pieces[0].L = 77
	if again, _ := b.Row("1"); text(again) != "1 x1 1 x2 >= 1" {
		t.Errorf("rule 3: Row: %s", text(again))
	}
}
