package base_test

import (
	"math"
	"strings"
	"testing"

	"hallmark/api"
	"hallmark/base"
	"hallmark/pb"
)

func TestPol(t *testing.T) { // P9.3
	b := base.New(rows(t, "1 x1 1 x2 >= 1; 1 ~x1 1 x2 >= 1; 3 x1 2 x2 >= 4"))
	b.Add(row(t, "1 x3 >= 1"))
	b.Add(row(t, "1 x5 >= 1"))
	b.Drop("4")
	was := standing(b)
	for _, c := range []struct {
		ops  string
		want string
		e    api.Errno
	}{
		{"1", "1 x1 1 x2 >= 1", api.OK}, {"5", "1 x5 >= 1", api.OK}, {"x7", "1 x7 >= 0", api.OK}, {"~x7", "1 ~x7 >= 0", api.OK}, {"x1073741824", "1 x1073741824 >= 0", api.OK}, {"~x1073741824", "1 ~x1073741824 >= 0", api.OK},
		{"1 2 +", "2 x2 >= 1", api.OK}, {"1 2 + s", "1 x2 >= 1", api.OK}, {"1 2 + 2 d", "1 x2 >= 1", api.OK}, {"3 2 d", "2 x1 1 x2 >= 2", api.OK}, {"3 x2 w", "3 x1 >= 2", api.OK}, {"3 x9 w", "3 x1 2 x2 >= 4", api.OK}, {"3 x1073741824 w", "3 x1 2 x2 >= 4", api.OK}, {"x1 5 * s", ">= 0", api.OK},
		{"1 2 3 + +", "3 x1 4 x2 >= 5", api.OK}, {"1 2 + 3 +", "3 x1 4 x2 >= 5", api.OK}, {"1 1 +", "2 x1 2 x2 >= 2", api.OK}, {"1 3 * 3 2 * +", "9 x1 7 x2 >= 11", api.OK}, {"1 2 3 2 d + x1 w +", "1 x1 3 x2 >= 2", api.OK},
		{"1 18446744073709551616 *", "18446744073709551616 x1 18446744073709551616 x2 >= 18446744073709551616", api.OK}, {"1 18446744073709551616 * 18446744073709551616 d", "1 x1 1 x2 >= 1", api.OK}, {"1 1 *", "1 x1 1 x2 >= 1", api.OK}, {"1 1 d", "1 x1 1 x2 >= 1", api.OK},
		{"", ">= 0", api.ErrBaseStack}, {"1 2", ">= 0", api.ErrBaseStack}, {"1 2 3 +", ">= 0", api.ErrBaseStack}, {"+", ">= 0", api.ErrBaseStack}, {"1 +", ">= 0", api.ErrBaseStack}, {"1 2 + +", ">= 0", api.ErrBaseStack}, {"s", ">= 0", api.ErrBaseStack}, {"1 * ", ">= 0", api.ErrBaseStack}, {"2 d", ">= 0", api.ErrBaseStack}, {"x1 w", ">= 0", api.ErrBaseStack},
		{"x *", ">= 0", api.ErrBaseStack}, {"0 d", ">= 0", api.ErrBaseStack}, {"x0 w", ">= 0", api.ErrBaseStack},
		{"4", ">= 0", api.ErrBaseGone}, {"6", ">= 0", api.ErrBaseUnknown}, {"0", ">= 0", api.ErrBaseUnknown}, {"1 4 +", ">= 0", api.ErrBaseGone}, {"6 +", ">= 0", api.ErrBaseUnknown}, {"+ 6", ">= 0", api.ErrBaseStack}, {"4 6", ">= 0", api.ErrBaseGone}, {"6 4", ">= 0", api.ErrBaseUnknown}, {"1 2 4", ">= 0", api.ErrBaseGone},
		{"1 0 *", ">= 0", api.ErrPbFactor}, {"1 0 d", ">= 0", api.ErrPbFactor}, {"1 -1 *", ">= 0", api.ErrPbFactor}, {"1 -1 d", ">= 0", api.ErrPbFactor}, {"1 -18446744073709551616 d", ">= 0", api.ErrPbFactor}, {"1 y *", ">= 0", api.ErrPbNumber}, {"1 02 *", ">= 0", api.ErrPbNumber}, {"1 -0 d", ">= 0", api.ErrPbNumber}, {"1 +1 d", ">= 0", api.ErrPbNumber},
		{"1 0 * 4", ">= 0", api.ErrPbFactor}, {"4 0 *", ">= 0", api.ErrBaseGone}, {"1 y d 0 *", ">= 0", api.ErrPbNumber}, {"1 0 * y d", ">= 0", api.ErrPbFactor},
		{"x0", ">= 0", api.ErrPbLit}, {"x1073741825", ">= 0", api.ErrPbLit}, {"~x1073741825", ">= 0", api.ErrPbLit}, {"1 x0 w", ">= 0", api.ErrPbLit}, {"1 ~x1 w", ">= 0", api.ErrPbLit}, {"1 x1073741825 w", ">= 0", api.ErrPbLit}, {"1 ~x1073741824 w", ">= 0", api.ErrPbLit}, {"1 x0 w +", ">= 0", api.ErrPbLit}, {"1 + x0 w", ">= 0", api.ErrBaseStack},
	} {
		if r, e := b.Pol(ops(c.ops)); text(r) != c.want || e != c.e {
			t.Errorf("P9.3: Pol(%s): %s, %d, want %s, %d", c.ops, text(r), e, c.want, c.e)
		}
	}
	if standing(b) != was {
		t.Errorf("P9.3: %s, then %s", was, standing(b))
	}
}

// TestOpsAtTheEdge: kinds, literals and numbers that no text of ops tells, and
// fields that a kind doesn't look at.
func TestOpsAtTheEdge(t *testing.T) { // P9.3
	b := base.New(rows(t, two))
	first := api.Op{Kind: api.OpRow, N: "1", L: math.MinInt}
	for _, c := range []struct {
		ops  []api.Op
		want string
		e    api.Errno
	}{
		{[]api.Op{first}, "1 x1 1 x2 >= 1", api.OK}, {[]api.Op{{Kind: api.OpLit, N: "x", L: -2}}, "1 ~x2 >= 0", api.OK}, {[]api.Op{first, first, {Kind: api.OpAdd, N: "x", L: -9}}, "2 x1 2 x2 >= 2", api.OK},
		{[]api.Op{first, {Kind: api.OpSaturate, N: "0"}}, "1 x1 1 x2 >= 1", api.OK}, {[]api.Op{first, {Kind: api.OpTimes, N: "2", L: math.MaxInt}}, "2 x1 2 x2 >= 2", api.OK}, {[]api.Op{first, {Kind: api.OpDiv, N: "2", L: -1}}, "1 x1 1 x2 >= 1", api.OK}, {[]api.Op{first, {Kind: api.OpWeaken, N: "0", L: 1}}, "1 x2 >= 0", api.OK},
		{[]api.Op{{}}, ">= 0", api.ErrBaseStack}, {[]api.Op{first, {}}, ">= 0", api.ErrBaseStack}, {[]api.Op{first, {Kind: -1}}, ">= 0", api.ErrBaseStack}, {[]api.Op{first, first, {Kind: api.OpWeaken + 1, N: "1", L: 1}}, ">= 0", api.ErrBaseStack}, {[]api.Op{first, {Kind: math.MaxInt}}, ">= 0", api.ErrBaseStack}, {[]api.Op{first, {Kind: math.MinInt}}, ">= 0", api.ErrBaseStack},
		{[]api.Op{{}, {Kind: api.OpRow, N: "9"}}, ">= 0", api.ErrBaseStack}, {[]api.Op{{Kind: api.OpRow, N: "9"}, {}}, ">= 0", api.ErrBaseUnknown},
		{[]api.Op{{Kind: api.OpLit, L: math.MinInt}}, ">= 0", api.ErrPbLit}, {[]api.Op{{Kind: api.OpLit, L: math.MaxInt}}, ">= 0", api.ErrPbLit}, {[]api.Op{first, {Kind: api.OpWeaken, L: math.MinInt}}, ">= 0", api.ErrPbLit}, {[]api.Op{first, {Kind: api.OpWeaken, L: math.MaxInt}}, ">= 0", api.ErrPbLit},
		{[]api.Op{first, {Kind: api.OpTimes}}, ">= 0", api.ErrPbNumber}, {[]api.Op{first, {Kind: api.OpDiv, N: "\xff"}}, ">= 0", api.ErrPbNumber}, {[]api.Op{{Kind: api.OpRow}}, ">= 0", api.ErrBaseUnknown},
	} {
		if r, e := b.Pol(c.ops); text(r) != c.want || e != c.e {
			t.Errorf("P9.3: Pol(%v): %s, %d, want %s, %d", c.ops, text(r), e, c.want, c.e)
		}
	}
}

// TestLongPol: a high stack, and long numbers.
func TestLongPol(t *testing.T) { // P9.3
	b := base.New(rows(t, two))
	const high = 20000
	r, e := b.Pol(ops(strings.Repeat("1 ", high) + strings.Repeat("+ ", high-1)))
	if text(r) != "20000 x1 20000 x2 >= 20000" || e != api.OK {
		t.Errorf("P9.3: a high stack: %s, %d", text(r), e)
	}
	if _, e := b.Pol(ops(strings.Repeat("1 ", high) + strings.Repeat("+ ", high-2))); e != api.ErrBaseStack {
		t.Errorf("P9.3: two rows left: %d", e)
	}
	if _, e := b.Pol(ops(strings.Repeat("1 ", high) + strings.Repeat("+ ", high))); e != api.ErrBaseStack {
		t.Errorf("P9.3: a sum too much: %d", e)
	}
	long := "1" + strings.Repeat("0", 3000)
	r, e = b.Pol(ops("2 " + long + " * " + long + " *"))
	if want := long + strings.Repeat("0", 3000); e != api.OK || r.Degree().Text() != want {
		t.Errorf("P9.3: long numbers: %d digits, %d", len(r.Degree().Text()), e)
	}
}

// TestPolAsTold holds Pol against a ledger's.
func TestPolAsTold(t *testing.T) { // P9.3
	s := newSource()
	found := map[api.Errno]int{}
	for range 20000 {
		b := s.base(t)
		list := s.ops(b)
		r, e := b.Pol(list)
		want, wantE := asLedger(b).pol(list)
		if found[e]++; e != wantE || !pb.Same(r, want) {
			t.Fatalf("P9.3: %s: Pol(%v): %s, %d, want %s, %d", told(b), list, text(r), e, text(want), wantE)
		}
	}
	for _, e := range []api.Errno{api.OK, api.ErrBaseStack, api.ErrBaseUnknown, api.ErrBaseGone, api.ErrPbNumber, api.ErrPbFactor, api.ErrPbLit} {
		if found[e] < 100 {
			t.Errorf("P9.3: error %d: too few to tell: %v", e, found)
		}
	}
}
