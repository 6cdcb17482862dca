package branch_test

import (
	"math"
	"slices"
	"testing"

	"hallmark/branch"
)

func TestNext(t *testing.T) { // P17.1
	for _, h := range [][]int{
		nil, {}, {0}, {1}, {-1}, {0, 0, 5}, {5, 0, 7, 0}, {3, 3, 3}, {9, 8, 7, 6, 5, 4},
		{math.MinInt, math.MaxInt, math.MinInt32, math.MaxInt32, 1 << 40, -1 << 40},
	} {
		want := append(slices.Clone(h), make([]int, 300)...)
		gives(t, branch.New(h), want...)
		gives(t, branch.New(h).Copy(), want...)
	}
}

func TestManyNumbers(t *testing.T) { // P17.1
	const many = 1000000
	h := make([]int, many)
	for i := range h {
		h[i] = many - i
	}
	b := branch.New(h)
	gives(t, b, h[:many/2]...)
	c := b.Copy()
	gives(t, b, append(slices.Clone(h[many/2:]), 0, 0)...)
	gives(t, c, append(slices.Clone(h[many/2:]), 0, 0)...)
}

func TestCopy(t *testing.T) { // P17.1: at each place, behind the end too
	h := []int{7, 0, -2, 9}
	rest := append(slices.Clone(h), 0, 0, 0, 0)
	for at := range 7 {
		b := branch.New(h)
		gives(t, b, rest[:at]...)
		c := b.Copy()
		if c == nil || c == b {
			t.Fatalf("P17.1: Copy answers %p of %p", c, b)
		}
		d := c.Copy()
		gives(t, c, rest[at:]...)
		gives(t, b, rest[at:]...)
		gives(t, d, rest[at:]...)
		gives(t, c.Copy(), 0, 0)
	}
}

// TestScripts: calls in any order, on scripts and on copies of them, held
// against ledgers.
func TestScripts(t *testing.T) { // P17.1
	s := newSource(1)
	var behind, within, copied int
	for range 300 {
		h := make([]int, s.Intn(20))
		for i := range h {
			h[i] = s.number()
		}
		scripts, ledgers := []*branch.Script{branch.New(h)}, []*ledger{{numbers: slices.Clone(h)}}
		for range 80 {
			k := s.Intn(len(scripts))
			if s.Intn(8) == 0 {
				l := *ledgers[k]
				scripts, ledgers = append(scripts, scripts[k].Copy()), append(ledgers, &l)
				copied++
				continue
			}
			want := ledgers[k].next()
			if got := scripts[k].Next(); got != want {
				t.Fatalf("P17.1: number %d of %v: %d", ledgers[k].given, h, got)
			}
			if ledgers[k].given > len(h) {
				behind++
			} else {
				within++
			}
			if len(h) > 0 { // the script has its numbers from New on
				h[s.Intn(len(h))] = s.number()
			}
		}
	}
	if min(behind, within, copied) < 1000 {
		t.Errorf("%d numbers, %d behind the last one, %d copies: too few to tell", within, behind, copied)
	}
}

// TestTheNumbersHandedIn: DOC.md, What holds everywhere, 3: neither changed nor
// kept, the spare room included.
func TestTheNumbersHandedIn(t *testing.T) { // P17.1
	room := []int{4, 5, 6, 7}
	one, other := branch.New(room[:2]), branch.New(room[1:3])
	gives(t, one, 4)
	copied := one.Copy()
	if !slices.Equal(room, []int{4, 5, 6, 7}) {
		t.Errorf("the numbers are %v now", room)
	}
	for i := range room {
		room[i] = 99
	}
	gives(t, one, 5, 0, 0, 0)
	gives(t, copied, 5, 0, 0, 0)
	gives(t, other, 5, 6, 0, 0)
	if !slices.Equal(room, []int{99, 99, 99, 99}) {
		t.Errorf("the numbers are %v now", room)
	}
}

// TestSideBySide: scripts of one list, and copies of one script, gone through at
// the same time, give what they give by themselves.
func TestSideBySide(t *testing.T) { // P17.1
	h := []int{5, 4, 3, 2, 1}
	b := branch.New(h)
	b.Next()
	done := make(chan bool)
	for range 8 {
		c := b.Copy()
		go func() {
			d := branch.New(h)
			fine := d.Next() == 5
			for _, want := range []int{4, 3, 2, 1, 0, 0} {
				fine = c.Next() == want && d.Next() == want && fine
			}
			done <- fine
		}()
	}
	for range 8 {
		if !<-done {
			t.Error("P17.1: another number")
		}
	}
	gives(t, b, 4, 3, 2, 1, 0)
}
