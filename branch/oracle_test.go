package branch_test

import (
	"fmt"
	"math/big"
	"slices"
	"testing"

	"hallmark/branch"
	"hallmark/dom"
)

// ledger: a script by the chapter's words: all its numbers, and how many of
// them were given.
type ledger struct {
	numbers []int
	given   int
}

func (l *ledger) next() int {
	l.given++
	if l.given > len(l.numbers) {
		return 0
	}
	return l.numbers[l.given-1]
}

// gives asks a script for its next numbers.
func gives(t *testing.T, b *branch.Script, want ...int) {
	t.Helper()
	for i, w := range want {
		if n := b.Next(); n != w {
			t.Fatalf("P17.1: number %d of %v: %d", i, want, n)
		}
	}
}

// whole divides numbers of any size: rounded down, and the rest from 0 on.
func whole(n, by *big.Int) (*big.Int, int) {
	q, rest := new(big.Int).DivMod(n, by, new(big.Int))
	return q, int(rest.Int64())
}

// picked tells what Pick should answer, by the values of all variables.
func picked(s *dom.Store, n int) (int, int, bool) {
	var open []int
	for x := range s.Vars() {
		if len(s.Values(x)) > 1 {
			open = append(open, x)
		}
	}
	if len(open) == 0 {
		return 0, 0, false
	}
	q, at := whole(big.NewInt(int64(n)), big.NewInt(int64(len(open))))
	values := s.Values(open[at])
	lo, hi := slices.Min(values), slices.Max(values)
	_, above := whole(q, big.NewInt(int64(hi-lo)))
	return open[at], lo + 1 + above, true
}

// picks asks Pick once.
func picks(t *testing.T, s *dom.Store, n, x, k int, ok bool) {
	t.Helper()
	if gx, gk, got := branch.Pick(s, n); gx != x || gk != k || got != ok {
		t.Fatalf("P17.2: Pick(%d) of %s: %d, %d, %v; want %d, %d, %v", n, shown(s), gx, gk, got, x, k, ok)
	}
}

// agrees holds Pick against what it should answer.
func agrees(t *testing.T, s *dom.Store, n int) bool {
	t.Helper()
	x, k, ok := picked(s, n)
	picks(t, s, n, x, k, ok)
	return ok
}

// shown tells all values of a store.
func shown(s *dom.Store) string {
	var out [][]int
	for x := range s.Vars() {
		out = append(out, s.Values(x))
	}
	return fmt.Sprint(out)
}
