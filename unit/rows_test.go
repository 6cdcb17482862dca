package unit_test

import (
	"fmt"
	"math/big"
	"math/rand"
	"slices"
	"strings"
	"testing"

	"hallmark/api"
	"hallmark/pb"
	"hallmark/unit"
)

// three: the rows of the chapter's examples.
const three = "1 x1 1 x2 >= 1; 1 ~x1 1 x3 >= 1; 1 ~x1 1 ~x3 >= 1"

// rows reads rows, a semicolon between two, such as "2 x1 3 ~x2 >= 4; 1 x1 >= 1".
func rows(t *testing.T, s string) []pb.Row {
	t.Helper()
	var all []pb.Row
	for one := range strings.SplitSeq(s, ";") {
		if strings.TrimSpace(one) != "" {
			all = append(all, row(t, one))
		}
	}
	return all
}

func row(t *testing.T, s string) pb.Row {
	t.Helper()
	words := strings.Fields(strings.ReplaceAll(strings.ReplaceAll(s, "~x", "-"), "x", ""))
	plain := api.Row{Degree: words[len(words)-1]}
	for words = words[:len(words)-2]; len(words) > 0; words = words[2:] {
		p := api.Piece{C: words[0]}
		fmt.Sscan(words[1], &p.L)
		plain.Pieces = append(plain.Pieces, p)
	}
	return of(t, plain)
}

func of(t *testing.T, plain api.Row) pb.Row {
	t.Helper()
	r, e := pb.Of(plain)
	if e != api.OK {
		t.Fatalf("pb.Of(%v): error %d", plain, e)
	}
	return r
}

func clause(t *testing.T, lits ...int) pb.Row {
	t.Helper()
	r, e := pb.Clause(lits)
	if e != api.OK {
		t.Fatalf("pb.Clause(%v): error %d", lits, e)
	}
	return r
}

// told writes rows for a message.
func told(all ...pb.Row) string {
	s := ""
	for _, r := range all {
		for _, p := range r.Plain().Pieces {
			s += fmt.Sprintf("%s %d ", p.C, p.L)
		}
		s += ">= " + r.Plain().Degree + "; "
	}
	return s
}

func std(s string) *big.Int {
	n, ok := new(big.Int).SetString(s, 10)
	if !ok {
		panic(s)
	}
	return n
}

// slack goes by P3.1's words.
func slack(r pb.Row, lits []int) *big.Int {
	plain := r.Plain()
	sum := new(big.Int)
	for _, p := range plain.Pieces {
		if !slices.Contains(lits, -p.L) {
			sum.Add(sum, std(p.C))
		}
	}
	return sum.Sub(sum, std(plain.Degree))
}

// run goes by P3.2's words, again and again over all rows.
func run(all []pb.Row, lits []int) ([]int, bool) {
	var have []int
	for _, l := range lits {
		if l == 0 || max(l, -l) > api.MaxLit || slices.Contains(have, l) {
			continue
		}
		if slices.Contains(have, -l) {
			return nil, false
		}
		have = append(have, l)
	}
	for more := true; more; {
		more = false
		for _, r := range all {
			left := slack(r, have)
			if left.Sign() < 0 {
				return nil, false
			}
			for _, p := range r.Plain().Pieces {
				if !slices.Contains(have, p.L) && !slices.Contains(have, -p.L) && std(p.C).Cmp(left) > 0 {
					have = append(have, p.L)
					more = true
				}
			}
		}
	}
	slices.SortFunc(have, func(l, m int) int { return max(l, -l) - max(m, -m) })
	return have, true
}

func shows(all []pb.Row, r pb.Row) bool {
	_, ok := run(append(slices.Clone(all), r.Negate()), nil)
	return !ok
}

// holds tells whether rows hold of an assignment: bit v - 1 is variable v.
func holds(bits int, all ...pb.Row) bool {
	for _, r := range all {
		if !r.Holds(func(v int) bool { return isTrue(bits, v) }) {
			return false
		}
	}
	return true
}

func allTrue(bits int, lits []int) bool {
	return !slices.ContainsFunc(lits, func(l int) bool { return !isTrue(bits, l) })
}

func isTrue(bits, lit int) bool {
	if lit < 0 {
		return !isTrue(bits, -lit)
	}
	return bits>>(lit-1)&1 == 1
}

// wrongWhy tells what isn't right about an answer of Why; "": nothing.
func wrongWhy(all []pb.Row, r pb.Row, places []int, ok bool) string {
	if !ok {
		if len(places) > 0 || shows(all, r) {
			return "none is to be told, or it is shown"
		}
		return ""
	}
	var some []pb.Row
	for i, p := range places {
		if p < 0 || p >= len(all) || i > 0 && places[i-1] >= p {
			return "places don't rise, or are none"
		}
		some = append(some, all[p])
	}
	if !shows(some, r) || !unit.Shows(some, r) {
		return "these don't show it"
	}
	for i := range some {
		if others := slices.Concat(some[:i], some[i+1:]); shows(others, r) || unit.Shows(others, r) {
			return fmt.Sprintf("%d can be left out", places[i])
		}
	}
	return ""
}

// vars: how many variables the rows of a source have.
const vars = 5

// source makes rows of few variables, so that much follows from them.
type source struct{ *rand.Rand }

func newSource() source { return source{rand.New(rand.NewSource(17))} }

func (s source) lit() int {
	l := 1 + s.Intn(vars)
	if s.Intn(2) == 0 {
		return -l
	}
	return l
}

// lits makes some literals; they clash now and then.
func (s source) lits() []int {
	var lits []int
	for range s.Intn(4) {
		lits = append(lits, s.lit())
	}
	return lits
}

// row makes a clause, or a row of small numbers, or of wide ones.
func (s source) row(t *testing.T) pb.Row {
	t.Helper()
	kind, sum := s.Intn(4), 0
	unit := "1"
	if kind == 3 {
		unit = "9223372036854775807000000003"
	}
	var plain api.Row
	for _, v := range s.Perm(vars)[:min(1+s.Intn(vars), 5-kind)] {
		c := 1
		if kind > 0 {
			c += s.Intn(4)
		}
		l := v + 1
		if s.Intn(2) == 0 {
			l = -l
		}
		sum += c
		plain.Pieces = append(plain.Pieces, api.Piece{C: new(big.Int).Mul(big.NewInt(int64(c)), std(unit)).String(), L: l})
	}
	degree := 1
	switch {
	case s.Intn(40) == 0:
		degree = sum + 1
	case kind > 0:
		degree = s.Intn(sum + 1)
	}
	plain.Degree = new(big.Int).Mul(big.NewInt(int64(degree)), std(unit)).String()
	return of(t, plain)
}

func (s source) rows(t *testing.T) []pb.Row {
	t.Helper()
	var all []pb.Row
	for range s.Intn(9) {
		all = append(all, s.row(t))
	}
	return all
}

// chains makes short clauses and rows of more variables, which lean on one another.
func (s source) chains(t *testing.T) []pb.Row {
	t.Helper()
	var all []pb.Row
	for range 20 + s.Intn(20) {
		v := s.Perm(3 * vars)
		for i := range v {
			v[i] = (v[i] + 1) * (1 - 2*s.Intn(2))
		}
		if s.Intn(3) == 0 {
			all = append(all, row(t, fmt.Sprintf("3 x%d 2 x%d 1 x%d >= 3", v[0], v[1], v[2])))
			continue
		}
		all = append(all, clause(t, v[:2]...))
	}
	return all
}
