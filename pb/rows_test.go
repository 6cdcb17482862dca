package pb_test

import (
	"math/big"
	"math/rand"
	"slices"
	"strconv"
	"strings"
	"testing"

	"hallmark/api"
	own "hallmark/big"
	"hallmark/pb"
)

// vars: how many variables the rows of a source have.
const vars = 4

// plain reads pieces and a degree, such as "2 x1 -3 ~x2 >= 0".
func plain(s string) api.Row {
	words := strings.Fields(s)
	r := api.Row{Degree: words[len(words)-1]}
	for i := 0; i < len(words)-2; i += 2 {
		l, err := strconv.Atoi(strings.NewReplacer("x", "", "~", "-").Replace(words[i+1]))
		if err != nil {
			panic(s)
		}
		r.Pieces = append(r.Pieces, api.Piece{C: words[i], L: l})
	}
	return r
}

// words writes pieces and a degree as plain reads them.
func words(r api.Row) string {
	s := ""
	for _, p := range r.Pieces {
		l := "x" + strconv.Itoa(p.L)
		if p.L < 0 {
			l = "~x" + strconv.Itoa(-p.L)
		}
		s += p.C + " " + l + " "
	}
	return s + ">= " + r.Degree
}

// row answers the row of a text that must have one.
func row(t *testing.T, s string) pb.Row {
	t.Helper()
	return of(t, plain(s))
}

func of(t *testing.T, r api.Row) pb.Row {
	t.Helper()
	made, e := pb.Of(r)
	if e != api.OK {
		t.Fatalf("Of(%s): error %d", words(r), e)
	}
	return made
}

func text(r pb.Row) string { return words(r.Plain()) }

// number answers a number that must be one.
func number(t *testing.T, s string) own.Int {
	t.Helper()
	n, e := own.Parse(s)
	if e != api.OK {
		t.Fatalf("Parse(%q): error %d", s, e)
	}
	return n
}

// std answers the library's number of a text.
func std(s string) *big.Int {
	n, ok := new(big.Int).SetString(s, 10)
	if !ok {
		panic(s)
	}
	return n
}

// stepped brings a row to the one form by the chapter's steps, one by one, in
// the library's numbers; bare: the degree stays below 0, if it is.
func stepped(r api.Row, bare bool) api.Row {
	degree := std(r.Degree)
	sides := map[int]*big.Int{}
	for _, p := range r.Pieces {
		c, l := std(p.C), p.L
		if c.Sign() < 0 {
			degree.Sub(degree, c)
			c.Neg(c)
			l = -l
		}
		if sides[l] == nil {
			sides[l], sides[-l] = new(big.Int), new(big.Int)
		}
		sides[l].Add(sides[l], c)
	}
	var made api.Row
	for l := range sides {
		switch {
		case sides[l].Cmp(sides[-l]) > 0:
			degree.Sub(degree, sides[-l])
			made.Pieces = append(made.Pieces, api.Piece{C: new(big.Int).Sub(sides[l], sides[-l]).String(), L: l})
		case l > 0 && sides[l].Cmp(sides[-l]) == 0:
			degree.Sub(degree, sides[l])
		}
	}
	slices.SortFunc(made.Pieces, func(p, q api.Piece) int { return max(p.L, -p.L) - max(q.L, -q.L) })
	if degree.Sign() < 0 && !bare {
		degree.SetInt64(0)
	}
	made.Degree = degree.String()
	return made
}

// joined tells both rows' pieces and the sum of their degrees.
func joined(r, s api.Row) api.Row {
	return api.Row{Pieces: slices.Concat(r.Pieces, s.Pieces), Degree: new(big.Int).Add(std(r.Degree), std(s.Degree)).String()}
}

// says tells whether plain data holds of an assignment: bit v - 1 is variable v.
func says(r api.Row, bits int) bool {
	sum := new(big.Int)
	for _, p := range r.Pieces {
		if isTrue(bits, max(p.L, -p.L)) == (p.L > 0) {
			sum.Add(sum, std(p.C))
		}
	}
	return sum.Cmp(std(r.Degree)) >= 0
}

func isTrue(bits, v int) bool { return bits>>(v-1)&1 == 1 }

func holds(r pb.Row, bits int) bool {
	return r.Holds(func(v int) bool { return isTrue(bits, v) })
}

// fault tells what of the one form a row hasn't; "": nothing.
func fault(r pb.Row) string {
	p := r.Plain()
	last := 0
	for _, x := range p.Pieces {
		switch v := max(x.L, -x.L); {
		case std(x.C).Sign() < 1:
			return "a coefficient below 1"
		case v <= last || v > api.MaxLit:
			return "variables don't rise"
		default:
			last = v
		}
	}
	if std(p.Degree).Sign() < 0 {
		return "a degree below 0"
	}
	return ""
}

// source makes rows of few variables, so that much comes together in them.
type source struct{ *rand.Rand }

func newSource() source { return source{rand.New(rand.NewSource(11))} }

// plain makes plain data of any signs and order.
func (s source) plain() api.Row {
	far := s.Intn(3) == 0
	r := api.Row{Degree: s.number(far)}
	for range s.Intn(8) {
		l := 1 + s.Intn(vars)
		if s.Intn(2) == 0 {
			l = -l
		}
		r.Pieces = append(r.Pieces, api.Piece{C: s.number(far), L: l})
	}
	return r
}

// number makes a small one, or, if far, perhaps one that is no int.
func (s source) number(far bool) string {
	n := big.NewInt(int64(s.Intn(16) - 5))
	if far && s.Intn(2) == 0 {
		n.Add(n, new(big.Int).Mul(big.NewInt(int64(s.Intn(5)-1)), std("9223372036854775807000000000")))
	}
	return n.String()
}

// factor makes a number above 0.
func (s source) factor(t *testing.T) own.Int {
	n := std(s.number(s.Intn(3) == 0))
	return number(t, n.Abs(n).Add(n, big.NewInt(1)).String())
}

// each calls f with many rows.
func (s source) each(t *testing.T, f func(r pb.Row)) {
	for range 3000 {
		f(of(t, s.plain()))
	}
}
