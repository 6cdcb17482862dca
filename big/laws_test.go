package big_test

import (
	"testing"

	"hallmark/api"
	own "hallmark/big"
)

func TestLawsOfSums(t *testing.T) { // P1.5
	r := newSource()
	pairs(func(x, y string) {
		z := r.text()
		a, b, c := parse(t, x), parse(t, y), parse(t, z)
		for i, law := range []struct{ left, right own.Int }{
			{a.Add(b), b.Add(a)},
			{a.Add(b).Add(c), a.Add(b.Add(c))},
			{a.Mul(b), b.Mul(a)},
			{a.Mul(b).Mul(c), a.Mul(b.Mul(c))},
			{a.Mul(b.Add(c)), a.Mul(b).Add(a.Mul(c))},
			{a.Sub(b), a.Add(b.Neg())},
			{a.Sub(b).Add(b), a},
		} {
			if !same(law.left, law.right) {
				t.Fatalf("P1.5: law %d of %s, %s, %s: %s and %s", i, x, y, z, law.left.Text(), law.right.Text())
			}
		}
	})
}

func TestLawsOfSigns(t *testing.T) { // P1.5
	pairs(func(x, y string) {
		a, b := parse(t, x), parse(t, y)
		if (a.Cmp(b) < 0) != (b.Sub(a).Sign() == 1) {
			t.Fatalf("P1.5: %s and %s: Cmp %d, the difference's sign %d", x, y, a.Cmp(b), b.Sub(a).Sign())
		}
		if a.Mul(b).Sign() != a.Sign()*b.Sign() {
			t.Fatalf("P1.5: %s and %s: the product's sign %d", x, y, a.Mul(b).Sign())
		}
	})
}

func TestLawsOfDivUp(t *testing.T) { // P1.6
	one := own.Of(1)
	pairs(func(x, y string) {
		a, b := parse(t, x), parse(t, y)
		q, e := a.DivUp(b)
		if b.Sign() < 1 {
			return
		}
		if e != api.OK || b.Mul(q.Sub(one)).Cmp(a) >= 0 || a.Cmp(b.Mul(q)) > 0 {
			t.Fatalf("P1.6: %s by %s: %s, error %d", x, y, q.Text(), e)
		}
	})
}

func TestLawsOfText(t *testing.T) { // P1.6
	pairs(func(x, y string) {
		a := parse(t, x)
		if a.Text() != x {
			t.Fatalf("P1.6: what Parse reads of %s Text writes as %s", x, a.Text())
		}
		for _, n := range []own.Int{a, a.Neg(), a.Add(parse(t, y)), a.Mul(parse(t, y))} {
			if again, e := own.Parse(n.Text()); e != api.OK || !same(again, n) {
				t.Fatalf("P1.6: %s is read as %s, error %d", n.Text(), again.Text(), e)
			}
		}
	})
}
