package big_test

import (
	"math"
	"math/big"
	"strconv"
	"strings"
	"testing"

	"hallmark/api"
	own "hallmark/big"
)

func TestOf(t *testing.T) { // P1.1
	for _, n := range []int{0, 1, -1, 9, -10, 999999999, 1000000000, math.MaxInt32 + 1, math.MaxInt - 1, math.MaxInt, math.MinInt + 1, math.MinInt} {
		want := big.NewInt(int64(n)).String()
		if got := own.Of(n).Text(); got != want || !same(own.Of(n), parse(t, want)) {
			t.Errorf("P1.1: Of(%d) is %s", n, got)
		}
	}
}

func TestParseTakesNumbers(t *testing.T) { // P1.1
	for _, s := range edges() {
		n, want := parse(t, s), std(t, s)
		if n.Text() != s || n.Sign() != want.Sign() {
			t.Errorf("P1.1: Parse(%q) is %s, of sign %d", s, n.Text(), n.Sign())
		}
	}
}

func TestParseTakesAnyLength(t *testing.T) { // P1.1
	for length := 1; length < 200; length++ {
		for _, s := range []string{"1" + strings.Repeat("0", length), strings.Repeat("7", length), "-" + strings.Repeat("9", length)} {
			if n := parse(t, s); n.Text() != s {
				t.Errorf("P1.1: Parse(%q) is %s", s, n.Text())
			}
		}
	}
	long := "-" + strings.Repeat("1234567890", 100000)
	if parse(t, long).Text() != long {
		t.Errorf("P1.1: a million digits aren't read as they are written")
	}
}

func TestParseRefuses(t *testing.T) { // P1.1
	nines := strings.Repeat("9", 40)
	for _, s := range []string{
		"", "-", "--", "-0", "00", "01", "-00", "-01", "0-", "+0", "+1", "+", " 1", "1 ", " ", "1\n", "\t1", "- 1", "--1", "1-", "1-1",
		"0x1", "0b1", "1e3", "1.0", "1.", ".1", "1_0", "1,000", "a", "1a", "a1", "/", ":", "1/", "1:", "\x00", "1\x00", "\xff", "1\xff",
		"\u0661", "\uff11", "\u22121", "NaN", "inf", "0" + nines, "-0" + nines, nines + "x", "x" + nines, nines[:20] + " " + nines[:20], "+" + nines, nines + "-",
	} {
		n, e := own.Parse(s)
		if e != api.ErrBigForm || !same(n, own.Int{}) {
			t.Errorf("P1.1: Parse(%q): %s, error %d", s, n.Text(), e)
		}
	}
}

func TestParseOfEveryShortText(t *testing.T) { // P1.1
	letters := "-+019 x"
	texts := []string{""}
	for i := 0; len(texts[i]) < 4; i++ {
		for _, c := range letters {
			texts = append(texts, texts[i]+string(c))
		}
	}
	for _, s := range texts {
		want, ok := new(big.Int).SetString(s, 10)
		ok = ok && want.String() == s // the library takes more than one writing of a number
		n, e := own.Parse(s)
		if ok != (e == api.OK) || ok && n.Text() != s || !ok && (e != api.ErrBigForm || n.Sign() != 0) {
			t.Errorf("P1.1: Parse(%q): %s, error %d", s, n.Text(), e)
		}
	}
}

func TestSmall(t *testing.T) { // P1.2
	for _, s := range edges() {
		n, ok := parse(t, s).Small()
		want := std(t, s)
		if ok != want.IsInt64() || ok && int64(n) != want.Int64() || !ok && n != 0 {
			t.Errorf("P1.2: Small of %s: %d, %v", s, n, ok)
		}
	}
	for _, n := range []int{0, 1, -1, math.MaxInt, math.MinInt} {
		if got, ok := own.Of(n).Small(); got != n || !ok {
			t.Errorf("P1.2: Small of Of(%d): %d, %v", n, got, ok)
		}
	}
}

func TestSmallOfResults(t *testing.T) { // P1.2: however a number came about
	one, most, least := own.Of(1), own.Of(math.MaxInt), own.Of(math.MinInt)
	over := most.Add(one)
	for i, c := range []struct {
		n    own.Int
		want int
		ok   bool
	}{
		{over, 0, false}, {least.Sub(one), 0, false}, {least.Neg(), 0, false}, {least.Mul(own.Of(-1)), 0, false},
		{over.Sub(one), math.MaxInt, true}, {over.Neg(), math.MinInt, true}, {over.Mul(own.Of(-1)), math.MinInt, true},
		{least.Sub(one).Add(one), math.MinInt, true}, {over.Sub(over), 0, true}, {over.Mul(own.Of(0)), 0, true},
	} {
		if n, ok := c.n.Small(); n != c.want || ok != c.ok {
			t.Errorf("P1.2: row %d, %s: %d, %v", i, c.n.Text(), n, ok)
		}
	}
}

func TestZeroValue(t *testing.T) {
	var none own.Int
	if !same(none, own.Of(0)) || none.Sign() != 0 || !same(none.Neg(), none) || !same(none.Add(none), none) || !same(none.Mul(own.Of(3)), none) {
		t.Errorf("Int{} is %s", none.Text())
	}
	if n, ok := none.Small(); n != 0 || !ok {
		t.Errorf("Small of Int{}: %d, %v", n, ok)
	}
	if q, e := none.DivUp(own.Of(5)); e != api.OK || !same(q, none) {
		t.Errorf("Int{} by 5: %s, error %d", q.Text(), e)
	}
	if q, e := own.Of(5).DivUp(none); e != api.ErrBigZero || !same(q, none) {
		t.Errorf("5 by Int{}: %s, error %d", q.Text(), e)
	}
}

func TestSignAndNeg(t *testing.T) { // P1.3
	for _, s := range edges() {
		n, want := parse(t, s), std(t, s)
		if n.Sign() != want.Sign() {
			t.Errorf("P1.3: sign of %s: %d", s, n.Sign())
		}
		if got := n.Neg().Text(); got != new(big.Int).Neg(want).String() {
			t.Errorf("P1.3: the opposite of %s: %s", s, got)
		}
	}
}

func TestSums(t *testing.T) { // P1.3
	pairs(func(x, y string) {
		a, b, v, w := parse(t, x), parse(t, y), std(t, x), std(t, y)
		if a.Cmp(b) != v.Cmp(w) {
			t.Fatalf("P1.3: Cmp of %s and %s: %d", x, y, a.Cmp(b))
		}
		for _, c := range []struct {
			what string
			got  own.Int
			want *big.Int
		}{
			{"sum", a.Add(b), new(big.Int).Add(v, w)},
			{"difference", a.Sub(b), new(big.Int).Sub(v, w)},
			{"product", a.Mul(b), new(big.Int).Mul(v, w)},
		} {
			if c.got.Text() != c.want.String() || !same(c.got, parse(t, c.want.String())) || c.got.Sign() != c.want.Sign() {
				t.Fatalf("P1.3: %s of %s and %s: %s, want %s", c.what, x, y, c.got.Text(), c.want)
			}
		}
	})
}

func TestLongProduct(t *testing.T) { // P1.3, P1.4: columns of more products than 64 bits hold
	s := strings.Repeat("9", 5000)
	a, want := parse(t, s), std(t, s)
	product := a.Mul(a.Neg())
	if product.Text() != want.Mul(want, new(big.Int).Neg(want)).String() {
		t.Errorf("P1.3: the product of two long numbers is wrong")
	}
	if q, e := product.DivUp(a); e != api.OK || !same(q, a.Neg()) {
		t.Errorf("P1.4: the quotient of two long numbers is wrong, error %d", e)
	}
}

func TestProductAtTheWord(t *testing.T) { // P1.3: 19 products of nine digits each come just below 2^64, and the carry to them above it
	const nine = uint64(985333074)
	last := nine + (math.MaxUint64-19*nine*nine)/nine
	x := strings.Repeat(strconv.FormatUint(nine, 10), 19)
	y := x[9:] + strconv.FormatUint(last, 10)
	want := new(big.Int).Mul(std(t, x), std(t, y)).String()
	if got := parse(t, x).Mul(parse(t, y)).Text(); len(y) != len(x) || got != want {
		t.Errorf("P1.3: product of %s and %s: %s, want %s", x, y, got, want)
	}
}

func TestDivUp(t *testing.T) { // P1.4
	pairs(func(x, y string) {
		q, e := parse(t, x).DivUp(parse(t, y))
		v, w := std(t, x), std(t, y)
		if w.Sign() <= 0 {
			if e != api.ErrBigZero || !same(q, own.Int{}) {
				t.Fatalf("P1.4: %s by %s: %s, error %d", x, y, q.Text(), e)
			}
			return
		}
		want, rest := new(big.Int).DivMod(v, w, new(big.Int))
		if rest.Sign() > 0 {
			want.Add(want, big.NewInt(1))
		}
		if e != api.OK || !same(q, parse(t, want.String())) {
			t.Fatalf("P1.4: %s by %s: %s, want %s, error %d", x, y, q.Text(), want, e)
		}
	})
}

func TestDivUpNearMultiples(t *testing.T) { // P1.4: where rounding up begins and ends
	r, one := newSource(), own.Of(1)
	for range 5000 {
		b, k := parse(t, r.text()), parse(t, r.text())
		if b.Cmp(one) <= 0 {
			continue
		}
		whole := b.Mul(k)
		for _, c := range []struct{ a, want own.Int }{{whole, k}, {whole.Add(one), k.Add(one)}, {whole.Sub(b).Add(one), k}} {
			if q, e := c.a.DivUp(b); e != api.OK || !same(q, c.want) {
				t.Fatalf("P1.4: %s by %s: %s, want %s, error %d", c.a.Text(), b.Text(), q.Text(), c.want.Text(), e)
			}
		}
	}
}

func TestValues(t *testing.T) { // an Int is a value: what is done with one changes none, its copies neither
	pairs(func(x, y string) {
		a, b := parse(t, x), parse(t, y)
		copied, opposite, sum := a, a.Neg(), a.Add(b)
		told, other := sum.Text(), opposite.Text()
		for _, n := range []own.Int{a, b, opposite, sum} {
			n.Add(a).Sub(b)
			n.Mul(b).Neg()
			n.DivUp(b)
			a.DivUp(n)
			a.Cmp(n)
		}
		if a.Text() != x || b.Text() != y || copied.Text() != x || sum.Text() != told || opposite.Text() != other {
			t.Fatalf("%s and %s have changed", x, y)
		}
	})
}
