package big_test

import (
	"math/big"
	"math/rand"
	"strings"
	"testing"

	"hallmark/api"
	own "hallmark/big"
)

// parse answers a number that must be one.
func parse(t *testing.T, s string) own.Int {
	t.Helper()
	n, e := own.Parse(s)
	if e != api.OK {
		t.Fatalf("Parse(%q): error %d", s, e)
	}
	return n
}

// std answers the library's number of the same text, to hold ours against.
func std(t *testing.T, s string) *big.Int {
	t.Helper()
	n, ok := new(big.Int).SetString(s, 10)
	if !ok {
		t.Fatalf("%q is no number", s)
	}
	return n
}

// same tells whether both are one number, by each way of asking.
func same(a, b own.Int) bool {
	return a.Cmp(b) == 0 && b.Cmp(a) == 0 && a.Text() == b.Text()
}

// edges: numbers at which something changes: signs, ints, limbs, carries.
func edges() []string {
	sizes := []string{
		"1", "2", "3", "7", "10", "999999999", "1000000000", "1000000001", "2147483647", "2147483648", "4294967296", "500000000",
		"3037000499", "3037000500", "999999999999999999", "1000000000000000000", "4611686018427387904",
		"9223372036854775806", "9223372036854775807", "9223372036854775808", "9223372036854775809",
		"9999999999999999999", "10000000000000000000", "18446744073709551615", "18446744073709551616",
		"1000000000000000000000000000", "999999999999999999999999999", "500000000000000000999999999", "1500000000000000000000000000",
		"340282366920938463463374607431768211456", strings.Repeat("9", 90), "1" + strings.Repeat("0", 90),
	}
	texts := []string{"0"}
	for _, s := range sizes {
		texts = append(texts, s, "-"+s)
	}
	return texts
}

// source makes numbers of all sizes, many of noughts and nines, where carries run far.
type source struct{ *rand.Rand }

func newSource() source { return source{rand.New(rand.NewSource(7))} }

func (r source) text() string {
	switch r.Intn(6) {
	case 0:
		return big.NewInt(int64(r.Intn(21) - 10)).String()
	case 1:
		return big.NewInt(int64(r.Uint64())).String()
	}
	groups := []string{"000000000", "999999999", "500000000", "499999999", "000000001", "999999998"}
	s := ""
	for range 1 + r.Intn(9) {
		if r.Intn(3) == 0 {
			s += big.NewInt(int64(1000000000 + r.Intn(1000000000))).String()[1:]
		} else {
			s += groups[r.Intn(len(groups))]
		}
	}
	s = strings.TrimLeft(s[r.Intn(9):], "0")
	switch {
	case s == "":
		return "0"
	case r.Intn(2) == 0:
		return "-" + s
	}
	return s
}

// pairs calls f with each pair of edges, and with many pairs of a source.
func pairs(f func(x, y string)) {
	for _, x := range edges() {
		for _, y := range edges() {
			f(x, y)
		}
	}
	r := newSource()
	for range 20000 {
		f(r.text(), r.text())
	}
}
