package base_test

import (
	"fmt"
	"math/big"
	"math/rand"
	"strconv"
	"strings"
	"testing"

	"hallmark/api"
	"hallmark/base"
	"hallmark/pb"
)

// two: the rows of the chapter's examples.
const two = "1 x1 1 x2 >= 1; 1 ~x1 >= 1"

// rows reads rows, a semicolon between two, such as "2 x1 3 ~x2 >= 4; 1 x1 >= 1".
func rows(t *testing.T, s string) []pb.Row {
	t.Helper()
	var all []pb.Row
	for one := range strings.SplitSeq(s, ";") {
		if strings.TrimSpace(one) != "" {
			all = append(all, row(t, one))
		}
	}
	return all
}

func row(t *testing.T, s string) pb.Row {
	t.Helper()
	words := strings.Fields(strings.ReplaceAll(strings.ReplaceAll(s, "~x", "-"), "x", ""))
	plain := api.Row{Degree: words[len(words)-1]}
	for words = words[:len(words)-2]; len(words) > 0; words = words[2:] {
		p := api.Piece{C: words[0]}
		fmt.Sscan(words[1], &p.L)
		plain.Pieces = append(plain.Pieces, p)
	}
	r, e := pb.Of(plain)
	if e != api.OK {
		t.Fatalf("pb.Of(%v): error %d", plain, e)
	}
	return r
}

// text writes a row as row reads it.
func text(r pb.Row) string {
	s, plain := "", r.Plain()
	for _, p := range plain.Pieces {
		s += p.C + " " + strings.Replace("x"+strconv.Itoa(p.L), "x-", "~x", 1) + " "
	}
	return s + ">= " + plain.Degree
}

// told writes all that is there, such as "1: 1 x1 >= 1; 3: 1 x2 >= 1; ".
func told(b *base.Base) string {
	s := ""
	for id, r := range b.All() {
		s += strconv.Itoa(id) + ": " + text(r) + "; "
	}
	return s
}

// standing writes all that a base tells of itself.
func standing(b *base.Base) string {
	s := fmt.Sprintf("%s%d there, then %d;", told(b), b.Len(), b.Next())
	for id := range b.Next() + 1 {
		r, e := b.Row(strconv.Itoa(id))
		s += fmt.Sprintf(" %s %d;", text(r), e)
	}
	return s
}

// ops reads operations as a pol of a log has them: "1 2 + 3 * 2 d s x1 w ~x1".
// (A number is a factor, or a divisor, if it has that sign behind it.)
func ops(s string) []api.Op {
	var list []api.Op
	words := strings.Fields(s)
	for i := 0; i < len(words); i++ {
		sign := ""
		if i+1 < len(words) {
			sign = words[i+1]
		}
		one, skip := op(words[i], sign)
		list = append(list, one)
		i += skip
	}
	return list
}

func op(word, sign string) (one api.Op, skip int) {
	lit, _ := strconv.Atoi(strings.Replace(strings.Replace(word, "~", "-", 1), "x", "", 1))
	switch {
	case sign == "*":
		return api.Op{Kind: api.OpTimes, N: word}, 1
	case sign == "d":
		return api.Op{Kind: api.OpDiv, N: word}, 1
	case sign == "w":
		return api.Op{Kind: api.OpWeaken, L: lit}, 1
	case word == "+":
		return api.Op{Kind: api.OpAdd}, 0
	case word == "s":
		return api.Op{Kind: api.OpSaturate}, 0
	case strings.Contains(word, "x"):
		return api.Op{Kind: api.OpLit, L: lit}, 0
	}
	return api.Op{Kind: api.OpRow, N: word}, 0
}

// vars: how many variables the rows of a source have.
const vars = 5

// source makes rows of few variables, so that much follows from them, and operations.
type source struct{ *rand.Rand }

func newSource() source { return source{rand.New(rand.NewSource(29))} }

func (s source) lit() int {
	l := 1 + s.Intn(vars)
	if s.Intn(2) == 0 {
		return -l
	}
	return l
}

// row makes a clause, or a row of small numbers, or of wide ones.
func (s source) row(t *testing.T) pb.Row {
	t.Helper()
	kind, sum := s.Intn(4), 0
	unit := big.NewInt(1)
	if kind == 3 {
		unit.SetString("9223372036854775807000000003", 10)
	}
	var plain api.Row
	for _, v := range s.Perm(vars)[:min(1+s.Intn(vars), 5-kind)] {
		c := 1
		if kind > 0 {
			c += s.Intn(4)
		}
		sum += c
		plain.Pieces = append(plain.Pieces, api.Piece{C: new(big.Int).Mul(big.NewInt(int64(c)), unit).String(), L: (v + 1) * (1 - 2*s.Intn(2))})
	}
	degree := 1
	if kind > 0 {
		degree = s.Intn(sum + 1)
	}
	plain.Degree = new(big.Int).Mul(big.NewInt(int64(degree)), unit).String()
	r, e := pb.Of(plain)
	if e != api.OK {
		t.Fatalf("pb.Of(%v): error %d", plain, e)
	}
	return r
}

func (s source) rows(t *testing.T, most int) []pb.Row {
	t.Helper()
	var all []pb.Row
	for range s.Intn(most + 1) {
		all = append(all, s.row(t))
	}
	return all
}

// base makes one of which some rows were dropped.
func (s source) base(t *testing.T) *base.Base {
	t.Helper()
	b := base.New(s.rows(t, 5))
	for range s.Intn(6) {
		b.Add(s.row(t))
	}
	for range s.Intn(3) {
		b.Drop(strconv.Itoa(1 + s.Intn(b.Next())))
	}
	return b
}

// id makes one of a row that is there; seldom another one, or none.
func (s source) id(b *base.Base) string {
	var there []string
	for id := range b.All() {
		there = append(there, strconv.Itoa(id))
	}
	switch {
	case s.Intn(30) == 0:
		return []string{"0", "-1", "01", "", "x", "18446744073709551617", "1 ", "+1"}[s.Intn(8)]
	case len(there) == 0 || s.Intn(20) == 0:
		return strconv.Itoa(1 + s.Intn(b.Next()))
	}
	return there[s.Intn(len(there))]
}

func (s source) ids(b *base.Base) []string {
	var ids []string
	for range s.Intn(7) {
		ids = append(ids, s.id(b))
	}
	return ids
}

// ops makes operations that often leave one row: each takes what is there, now
// and then more, or it is none, or its number, or literal.
func (s source) ops(b *base.Base) []api.Op {
	var list []api.Op
	for there, left := 0, s.Intn(9); left > 0 || there > 1; left-- {
		o := api.Op{Kind: api.OpAdd}
		switch k := s.Intn(8); {
		case s.Intn(60) == 0:
			o = api.Op{Kind: s.Intn(10), N: "1", L: 1}
		case left > 0 && (there == 0 || k < 2):
			o = api.Op{Kind: api.OpRow, N: s.id(b)}
			there++
		case left > 0 && k == 2:
			o = api.Op{Kind: api.OpLit, L: s.odd(s.lit())}
			there++
		case k < 5 && there > 0:
			o = api.Op{Kind: api.OpTimes + s.Intn(2), N: s.number()}
		case k == 5 && there > 0:
			o = api.Op{Kind: api.OpSaturate}
		case k == 6 && there > 0:
			o = api.Op{Kind: api.OpWeaken, L: s.odd(max(1, s.lit()))}
		case there > 1:
			there--
		case s.Intn(8) > 0:
			continue
		}
		list = append(list, o)
		if s.Intn(60) == 0 {
			break
		}
	}
	return list
}

// odd makes a literal into none, now and then.
func (s source) odd(l int) int {
	if s.Intn(20) == 0 {
		return []int{0, -1, api.MaxLit, -api.MaxLit, api.MaxLit + 1, -api.MaxLit - 1}[s.Intn(6)]
	}
	return l
}

func (s source) number() string {
	if s.Intn(20) == 0 {
		return []string{"0", "-3", "", "x", "02", "--1"}[s.Intn(6)]
	}
	return []string{"1", "2", "3", "7", "18446744073709551616"}[s.Intn(5)]
}

// holds tells whether all rows hold of an assignment: bit v - 1 is variable v.
func holds(bits int, all ...pb.Row) bool {
	for _, r := range all {
		if !r.Holds(func(v int) bool { return bits>>(v-1)&1 == 1 }) {
			return false
		}
	}
	return true
}
