package pb_test

import (
	"math"
	"math/big"
	"slices"
	"strconv"
	"strings"
	"testing"

	"hallmark/api"
	own "hallmark/big"
	"hallmark/pb"
)

// TestRowsAreValues: no rule changes a row that it is asked of, nor an earlier answer.
func TestRowsAreValues(t *testing.T) { // P2.5
	s := newSource()
	s.each(t, func(r pb.Row) {
		o := of(t, s.plain())
		first := r.Add(o)
		was := []string{text(r), text(o), text(first)}
		v := 1 + s.Intn(vars)
		for _, x := range []pb.Row{r, o, first} {
			x.Add(r)
			o.Add(x)
			x.Times(s.factor(t))
			x.Div(s.factor(t))
			x.Saturate()
			x.Weaken(v)
			x.Weaken(v).Add(o)
			x.Negate()
			x.Negate().Negate()
		}
		if now := []string{text(r), text(o), text(first)}; !slices.Equal(now, was) {
			t.Fatalf("P2.5: %q is now %q", was, now)
		}
	})
}

func TestAdd(t *testing.T) { // P2.5
	for _, c := range []struct{ a, b, want string }{
		{"1 x1 1 x2 >= 1", "1 ~x1 1 x2 >= 1", "2 x2 >= 1"}, {"1 x1 >= 1", "1 ~x1 >= 1", ">= 1"}, {"1 x1 >= 0", "1 ~x1 >= 0", ">= 0"},
		{"1 x1 >= 2", ">= 3", "1 x1 >= 5"}, {"1 x2 >= 1", "1 ~x1 1 x3 >= 1", "1 ~x1 1 x2 1 x3 >= 2"}, {"5 x1 >= 3", "2 ~x1 >= 1", "3 x1 >= 2"}, {"2 x1 >= 3", "5 ~x1 >= 1", "3 ~x1 >= 2"},
		{"1 x1 1 x2 1 x3 >= 1", "1 x4 >= 1", "1 x1 1 x2 1 x3 1 x4 >= 2"}, {"9223372036854775807 x1 >= 9223372036854775807", "1 x1 >= 1", "9223372036854775808 x1 >= 9223372036854775808"},
	} {
		a, b := row(t, c.a), row(t, c.b)
		if got := text(a.Add(b)); got != c.want || text(b.Add(a)) != c.want {
			t.Errorf("P2.5: %s and %s: %s, want %s", c.a, c.b, got, c.want)
		}
	}
	s := newSource()
	s.each(t, func(r pb.Row) {
		o := of(t, s.plain())
		if got, want := text(r.Add(o)), words(stepped(joined(r.Plain(), o.Plain()), false)); got != want {
			t.Fatalf("P2.5: %s and %s: %s, want %s", text(r), text(o), got, want)
		}
	})
}

func TestTimesAndDiv(t *testing.T) { // P2.5
	for _, c := range []struct{ from, n, times, div string }{
		{"3 x1 2 x2 >= 4", "1", "3 x1 2 x2 >= 4", "3 x1 2 x2 >= 4"}, {"3 x1 2 x2 >= 4", "2", "6 x1 4 x2 >= 8", "2 x1 1 x2 >= 2"},
		{"3 x1 2 ~x2 >= 5", "3", "9 x1 6 ~x2 >= 15", "1 x1 1 ~x2 >= 2"}, {"3 x1 2 x2 >= 4", "100", "300 x1 200 x2 >= 400", "1 x1 1 x2 >= 1"}, {"3 x1 >= 0", "2", "6 x1 >= 0", "2 x1 >= 0"},
		{">= 0", "7", ">= 0", ">= 0"}, {">= 8", "7", ">= 56", ">= 2"},
		{"3 x1 >= 4", "9223372036854775808", "27670116110564327424 x1 >= 36893488147419103232", "1 x1 >= 1"}, {"9223372036854775809 x1 >= 18446744073709551618", "9223372036854775808", "85070591730234615875067023894796828672 x1 >= 170141183460469231750134047789593657344", "2 x1 >= 3"},
	} {
		r, n := row(t, c.from), number(t, c.n)
		times, e := r.Times(n)
		div, f := r.Div(n)
		if text(times) != c.times || text(div) != c.div || e != api.OK || f != api.OK {
			t.Errorf("P2.5: %s by %s: %s, error %d; %s, error %d", c.from, c.n, text(times), e, text(div), f)
		}
	}
	for _, n := range []string{"0", "-1", "-2", "-9223372036854775808", "-9223372036854775809"} {
		for _, from := range []string{">= 0", "3 x1 2 x2 >= 4"} {
			times, e := row(t, from).Times(number(t, n))
			div, f := row(t, from).Div(number(t, n))
			if e != api.ErrPbFactor || f != api.ErrPbFactor || !pb.Same(times, pb.Row{}) || !pb.Same(div, pb.Row{}) {
				t.Errorf("P2.5: %s by %s: %s, error %d; %s, error %d", from, n, text(times), e, text(div), f)
			}
		}
	}
}

func TestSaturateWeakenNegate(t *testing.T) { // P2.5
	for _, c := range []struct{ from, saturated, negated string }{
		{">= 0", ">= 0", ">= 1"}, {">= 1", ">= 1", ">= 0"}, {">= 9", ">= 9", ">= 0"},
		{"5 x1 >= 0", ">= 0", "5 ~x1 >= 6"}, {"2 x2 >= 1", "1 x2 >= 1", "2 ~x2 >= 2"}, {"3 x1 2 ~x2 >= 2", "2 x1 2 ~x2 >= 2", "3 ~x1 2 x2 >= 4"}, {"3 x1 2 x2 >= 4", "3 x1 2 x2 >= 4", "3 ~x1 2 ~x2 >= 2"},
		{"3 x1 2 x2 >= 5", "3 x1 2 x2 >= 5", "3 ~x1 2 ~x2 >= 1"}, {"3 x1 2 x2 >= 6", "3 x1 2 x2 >= 6", "3 ~x1 2 ~x2 >= 0"}, {"3 x1 2 x2 >= 7", "3 x1 2 x2 >= 7", "3 ~x1 2 ~x2 >= 0"},
		{"18446744073709551616 x1 >= 9223372036854775808", "9223372036854775808 x1 >= 9223372036854775808", "18446744073709551616 ~x1 >= 9223372036854775809"},
	} {
		r := row(t, c.from)
		if text(r.Saturate()) != c.saturated || text(r.Negate()) != c.negated {
			t.Errorf("P2.5: %s: saturated %s, negated %s", c.from, text(r.Saturate()), text(r.Negate()))
		}
	}
	for _, c := range []struct {
		from string
		v    int
		want string
	}{
		{"3 x1 2 x2 >= 4", 1, "2 x2 >= 1"}, {"3 x1 2 x2 >= 4", 2, "3 x1 >= 2"}, {"3 x1 2 ~x2 >= 4", 2, "3 x1 >= 2"}, {"3 x1 2 x2 >= 2", 1, "2 x2 >= 0"}, {"3 x1 2 x2 >= 2", 2, "3 x1 >= 0"}, {"1 x1 1 x2 1 x3 >= 2", 2, "1 x1 1 x3 >= 1"},
		{"3 ~x1 >= 9", 1, ">= 6"}, {"9223372036854775808 x1 >= 9223372036854775809", 1, ">= 1"}, {"1 x1073741824 >= 1", last, ">= 0"},
	} {
		if got := text(row(t, c.from).Weaken(c.v)); got != c.want {
			t.Errorf("P2.5: %s without %d: %s, want %s", c.from, c.v, got, c.want)
		}
	}
	for _, v := range []int{0, -1, -2, 3, 5, last, last + 1, math.MaxInt, math.MinInt} {
		for _, from := range []string{"3 x1 2 ~x2 1 x4 >= 4", ">= 2"} {
			if got := text(row(t, from).Weaken(v)); got != from {
				t.Errorf("P2.5: %s without %d: %s", from, v, got)
			}
		}
	}
}

// TestRulesPieceByPiece holds the rules that go piece by piece against the library's numbers.
func TestRulesPieceByPiece(t *testing.T) { // P2.5
	s := newSource()
	s.each(t, func(r pb.Row) {
		n, v := s.factor(t), 1+s.Intn(vars)
		by, p := std(n.Text()), r.Plain()
		degree, total := std(p.Degree), new(big.Int)
		times, div, negated, weak, saturated := "", "", "", "", ""
		left := std(p.Degree)
		for _, x := range p.Pieces {
			c, l := std(x.C), x.L
			total.Add(total, c)
			times += piece(new(big.Int).Mul(c, by), l)
			div += piece(up(c, by), l)
			negated += piece(c, -l)
			if max(l, -l) == v {
				left.Sub(left, c)
			} else {
				weak += piece(c, l)
			}
			if degree.Sign() > 0 {
				saturated += piece(least(c, degree), l)
			}
		}
		if total.String() != r.Total().Text() {
			t.Fatalf("P2.4: %s: total %s", text(r), r.Total().Text())
		}
		gotTimes, _ := r.Times(n)
		gotDiv, _ := r.Div(n)
		not := new(big.Int).Sub(total, degree)
		for _, c := range []struct{ rule, got, want string }{
			{"Times", text(gotTimes), times + ">= " + new(big.Int).Mul(degree, by).String()},
			{"Div", text(gotDiv), div + ">= " + up(degree, by).String()},
			{"Negate", text(r.Negate()), negated + ">= " + clipped(not.Add(not, big.NewInt(1)))},
			{"Weaken", text(r.Weaken(v)), weak + ">= " + clipped(left)},
			{"Saturate", text(r.Saturate()), saturated + ">= " + degree.String()},
		} {
			if c.got != c.want {
				t.Fatalf("P2.5: %s, %s, %d: %s is %s, want %s", text(r), n.Text(), v, c.rule, c.got, c.want)
			}
		}
	})
}

func piece(c *big.Int, l int) string {
	return strings.TrimSuffix(words(api.Row{Pieces: []api.Piece{{C: c.String(), L: l}}}), ">= ")
}

func up(a, b *big.Int) *big.Int {
	q, m := new(big.Int).DivMod(a, b, new(big.Int))
	if m.Sign() > 0 {
		q.Add(q, big.NewInt(1))
	}
	return q
}

func least(a, b *big.Int) *big.Int {
	if a.Cmp(b) < 0 {
		return a
	}
	return b
}

func clipped(n *big.Int) string {
	if n.Sign() < 0 {
		return "0"
	}
	return n.String()
}

// TestLongSums: thousands of sums of long rows with wide numbers.
func TestLongSums(t *testing.T) { // P2.5
	const n, times = 300, 1000
	c := "1" + strings.Repeat("0", 30)
	from := api.Row{Degree: "5"}
	for l := range n {
		from.Pieces = append(from.Pieces, api.Piece{C: c, L: l + 1})
	}
	one := of(t, from)
	var sum pb.Row
	for range times {
		sum = sum.Add(one)
	}
	product, e := one.Times(own.Of(times))
	if e != api.OK || !pb.Same(sum, product) || sum.Degree().Text() != strconv.Itoa(5*times) {
		t.Errorf("P2.5: %d times a row isn't the row times %d", times, times)
	}
}
