package unit_test

import (
	"fmt"
	"math"
	"math/big"
	"slices"
	"testing"

	"hallmark/api"
	"hallmark/pb"
	"hallmark/unit"
)

func TestSlack(t *testing.T) { // P3.1
	for _, c := range []struct {
		row  string
		lits []int
		want string
	}{
		{"2 ~x3 1 x4 >= 2", nil, "1"}, {"2 ~x3 1 x4 >= 2", []int{3}, "-1"}, {"2 ~x3 1 x4 >= 2", []int{-3}, "1"}, {"2 ~x3 1 x4 >= 2", []int{3, -4}, "-2"},
		{"2 ~x3 1 x4 >= 2", []int{-4, 9, -4, -4}, "0"}, {"2 ~x3 1 x4 >= 2", []int{3, -3}, "-1"}, {"2 ~x3 1 x4 >= 2", []int{-3, 3, 4}, "-1"},
		{"2 ~x3 1 x4 >= 2", []int{0, api.MaxLit + 1, -api.MaxLit - 1, math.MaxInt, math.MinInt}, "1"},
		{">= 0", nil, "0"}, {">= 7", []int{1}, "-7"}, {"5 x1 >= 0", []int{-1}, "0"}, {"5 x1 >= 0", nil, "5"},
		{"1 x1073741824 1 ~x1 >= 1", []int{-api.MaxLit}, "0"}, {"1 x1073741824 1 ~x1 >= 1", []int{-api.MaxLit, 1}, "-1"},
		{"18446744073709551616 x1 1 x2 >= 9223372036854775808", nil, "9223372036854775809"}, {"18446744073709551616 x1 1 x2 >= 9223372036854775808", []int{-1}, "-9223372036854775807"},
	} {
		if got := unit.Slack(row(t, c.row), c.lits).Text(); got != c.want {
			t.Errorf("P3.1: %s from %v: %s, want %s", c.row, c.lits, got, c.want)
		}
	}
	s := newSource()
	for range 3000 {
		r, lits := s.row(t), s.lits()
		if got, want := unit.Slack(r, lits).Text(), slack(r, lits).String(); got != want {
			t.Fatalf("P3.1: %s from %v: %s, want %s", told(r), lits, got, want)
		}
	}
}

func TestRun(t *testing.T) { // P3.2, P3.3
	for _, c := range []struct {
		rows string
		lits []int
		want string
	}{
		{three, []int{-2}, "[] false"}, {three, []int{2}, "[2] true"}, {three, []int{1}, "[] false"}, {three, []int{-1}, "[-1 2] true"}, {three, nil, "[] true"},
		{"", nil, "[] true"}, {"", []int{7, -3, 5}, "[-3 5 7] true"}, {"", []int{-3, -3}, "[-3] true"}, {">= 0", nil, "[] true"}, {">= 0", []int{1}, "[1] true"}, {">= 1", nil, "[] false"}, {"1 x1 >= 2", nil, "[] false"},
		{"2 ~x3 1 x4 >= 2", nil, "[-3] true"}, {"2 ~x3 1 x4 >= 2", []int{4}, "[-3 4] true"}, {"2 ~x3 1 x4 >= 2", []int{3}, "[] false"},
		{"1 x1 1 x2 >= 2", nil, "[1 2] true"}, {"3 x1 2 x2 1 x3 >= 3", nil, "[] true"}, {"3 x1 2 x2 1 x3 >= 3", []int{-3}, "[1 -3] true"}, {"3 x1 2 x2 1 x3 >= 3", []int{-2}, "[1 -2] true"}, {"3 x1 2 x2 1 x3 >= 3", []int{-1}, "[-1 2 3] true"},
		{"3 x1 2 x2 1 x3 >= 4", nil, "[1] true"}, {"1 x1 2 x2 3 x3 >= 4", nil, "[3] true"}, {"3 x1 2 x2 1 x3 >= 5", nil, "[1 2] true"}, {"3 x1 2 x2 1 x3 >= 6", nil, "[1 2 3] true"}, {"3 x1 2 x2 1 x3 >= 7", nil, "[] false"}, {"9 x1 >= 0", []int{-1}, "[-1] true"},
		{"2 x1 2 x2 2 x3 >= 3", nil, "[] true"}, {"2 x1 2 x2 2 x3 >= 3", []int{-1}, "[-1 2 3] true"},
		{"1 ~x9 1 x8 >= 1; 1 ~x8 1 x7 >= 1; 1 ~x7 1 x6 >= 1; 1 x9 >= 1", nil, "[6 7 8 9] true"}, {"1 x9 >= 1; 1 ~x7 1 x6 >= 1; 1 ~x8 1 x7 >= 1; 1 ~x9 1 x8 >= 1", nil, "[6 7 8 9] true"},
		{"1 x1 >= 1; 1 ~x1 >= 1", nil, "[] false"}, {"1 x1 >= 1; 1 x1 >= 1", nil, "[1] true"},
		{"1 x1073741824 >= 1; 1 ~x1073741824 1 ~x1073741823 >= 1", nil, "[-1073741823 1073741824] true"},
		{"1000000000000000000000 x1 1 x2 >= 1000000000000000000000", nil, "[1] true"}, {"1000000000000000000000 x1 1 x2 >= 1000000000000000000001", nil, "[1 2] true"}, {"1000000000000000000000 x1 1 x2 >= 1000000000000000000000", []int{-1}, "[] false"},
	} {
		if lits, ok := unit.Run(rows(t, c.rows), c.lits); fmt.Sprint(lits, ok) != c.want {
			t.Errorf("P3.3: %s from %v: %v %v, want %s", c.rows, c.lits, lits, ok, c.want)
		}
	}
}

func TestRunFromWrongLiterals(t *testing.T) { // P3.3
	const out = api.MaxLit + 1
	for _, c := range []struct {
		rows string
		lits []int
		want string
	}{
		{"", []int{0, out, -out, math.MaxInt, math.MinInt, math.MinInt + 1}, "[] true"}, {"", []int{out, -out, api.MaxLit, 0, -1}, "[-1 1073741824] true"}, {"", []int{-api.MaxLit}, "[-1073741824] true"},
		{three, []int{2, 2, 0, 1 << 31}, "[2] true"},
		{"", []int{5, -5}, "[] false"}, {"", []int{-5, 7, 5}, "[] false"}, {three, []int{9, -9}, "[] false"}, {"", []int{api.MaxLit, -api.MaxLit}, "[] false"}, {">= 1", []int{1, -1}, "[] false"},
	} {
		if lits, ok := unit.Run(rows(t, c.rows), c.lits); fmt.Sprint(lits, ok) != c.want {
			t.Errorf("P3.3: %s from %v: %v %v, want %s", c.rows, c.lits, lits, ok, c.want)
		}
	}
}

// TestRunInAnyOrder holds Run against P3.2's words, and two orders of rows and literals against each other.
func TestRunInAnyOrder(t *testing.T) { // P3.2, P3.3
	found := map[bool]int{}
	s := newSource()
	for range 5000 {
		all, lits := s.rows(t), s.lits()
		want, wantOK := run(all, lits)
		for range 2 {
			if got, ok := unit.Run(all, lits); ok != wantOK || !slices.Equal(got, want) {
				t.Fatalf("P3.2: %s from %v: %v %v, want %v %v", told(all...), lits, got, ok, want, wantOK)
			}
			s.Shuffle(len(all), func(i, j int) { all[i], all[j] = all[j], all[i] })
			s.Shuffle(len(lits), func(i, j int) { lits[i], lits[j] = lits[j], lits[i] })
		}
		found[wantOK]++
	}
	if found[true] < 1000 || found[false] < 1000 {
		t.Errorf("P3.2: too few kinds of ends: %v", found)
	}
}

func TestShowsAndWhy(t *testing.T) { // P3.4
	for _, c := range []struct{ rows, row, want string }{
		{three, "1 x2 >= 1", "[0 1 2] true"}, {three, "1 x1 >= 1", "[] false"}, {three, "1 ~x1 >= 1", "[1 2] true"}, {three, "1 x2 1 x9 >= 1", "[0 1 2] true"}, {three, "1 ~x1 1 x3 >= 1", "[1] true"},
		{three, ">= 0", "[] true"}, {three, ">= 1", "[] false"}, {three, "1 x5 >= 0", "[] true"}, {"", ">= 0", "[] true"}, {"", ">= 1", "[] false"}, {"", "1 x1 1 ~x1 >= 1", "[] true"}, {"", "1 x1 >= 1", "[] false"}, {"", "3 x1 >= 0", "[] true"},
		{three + "; 1 x1 >= 1", ">= 1", "[1 2 3] true"}, {">= 1", "1 x1 >= 1", "[0] true"}, {">= 0; >= 0; >= 2; >= 0", ">= 9", "[2] true"}, {">= 5; >= 0", ">= 0", "[] true"},
		{"2 x1 2 x2 2 x3 >= 3", "2 x1 2 x2 2 x3 >= 3", "[] false"}, {"2 x1 2 x2 2 x3 >= 2", "2 x1 2 x2 2 x3 >= 2", "[0] true"},
		{"1 x1 >= 1; 1 ~x1 >= 1", "9 x5 >= 9", "[0 1] true"}, {"1 x9 >= 1; 1 x1 1 x2 >= 2; 1 x8 1 x7 >= 1", "2 x1 3 x2 >= 5", "[1] true"},
		{"18446744073709551616 x1 1 x2 >= 18446744073709551616", "1 x1 >= 1", "[0] true"}, {"18446744073709551616 x1 1 x2 >= 1", "1 x1 >= 1", "[] false"},
	} {
		all, r := rows(t, c.rows), row(t, c.row)
		places, ok := unit.Why(all, r)
		if fmt.Sprint(places, ok) != c.want || unit.Shows(all, r) != ok {
			t.Errorf("P3.4: %s of %s: %v %v, Shows %v, want %s", c.row, c.rows, places, ok, unit.Shows(all, r), c.want)
		}
	}
}

// TestWhyOneOfSeveral: each of several lists of places would do.
func TestWhyOneOfSeveral(t *testing.T) { // P3.4
	for _, c := range []struct{ rows, row string }{
		{"1 x1 >= 1; 1 x1 >= 1; 1 x1 >= 1", "1 x1 >= 1"}, {three + ";" + three, "1 x2 >= 1"}, {"1 x1 >= 2; 1 ~x1 >= 1; 1 x1 >= 1", "1 x5 >= 1"},
		{"1 x1 1 x3 >= 1; 1 ~x3 1 x4 >= 1; 1 ~x4 1 x1 >= 1; 1 x1 1 x2 >= 1; 1 ~x2 1 x1 >= 1", "1 x1 >= 1"},
		{"1 x1 1 x2 >= 1; 1 x1 1 x3 >= 1; 1 ~x2 1 x4 >= 1; 1 ~x3 1 x4 >= 1; 1 ~x4 1 x5 >= 1; 3 x1 2 ~x4 1 ~x5 >= 3", "1 x1 >= 1"},
	} {
		all, r := rows(t, c.rows), row(t, c.row)
		places, ok := unit.Why(all, r)
		if f := wrongWhy(all, r, places, ok); f != "" || !ok {
			t.Errorf("P3.4: %s of %s: %v %v: %s", c.row, c.rows, places, ok, f)
		}
	}
}

func TestShowsAndWhyOfMany(t *testing.T) { // P3.4
	sizes := map[int]int{}
	s := newSource()
	for range 8000 {
		all, r := append(s.rows(t), s.rows(t)...), s.row(t)
		if s.Intn(4) == 0 {
			all, r = s.chains(t), clause(t, s.lit())
		}
		if got := unit.Shows(all, r); got != shows(all, r) {
			t.Fatalf("P3.4: %s of %s: %v", told(r), told(all...), got)
		}
		places, ok := unit.Why(all, r)
		if f := wrongWhy(all, r, places, ok); f != "" {
			t.Fatalf("P3.4: %s of %s: %v %v: %s", told(r), told(all...), places, ok, f)
		}
		if !ok {
			sizes[-1]++
		} else {
			sizes[len(places)]++
		}
	}
	for n := -1; n < 8; n++ {
		if sizes[n] < 20 {
			t.Errorf("P3.4: too few of %d places: %v", n, sizes)
		}
	}
}

// TestLongChains: each row asks for the next one's literal, from the last row to the first.
func TestLongChains(t *testing.T) { // P3.2, P3.4
	const n = 20000
	var all []pb.Row
	for v := n; v > 1; v-- {
		all = append(all, clause(t, 1-v, v), clause(t, 1-v, n+v))
	}
	if lits, ok := unit.Run(all, []int{1}); !ok || len(lits) != 2*n-1 || lits[n-1] != n {
		t.Errorf("P3.2: %d literals, %v", len(lits), ok)
	}
	end := clause(t, -1, n)
	if !unit.Shows(all, end) || unit.Shows(all, clause(t, 1, n)) {
		t.Errorf("P3.4: the last literal follows from the first one, and not by itself")
	}
	places, ok := unit.Why(all, end)
	if !ok || len(places) != n-1 {
		t.Fatalf("P3.4: %d places, %v", len(places), ok)
	}
	for i, p := range places {
		if p != 2*i {
			t.Fatalf("P3.4: place %d is %d", i, p)
		}
	}
}

// TestLongRows: rows of many coefficients, of which each literal that is false asks for one more.
func TestLongRows(t *testing.T) { // P3.2
	const n = 20000
	var plain api.Row
	sum := new(big.Int)
	for i := range n {
		c := big.NewInt(int64(2*n - i))
		sum.Add(sum, c)
		plain.Pieces = append(plain.Pieces, api.Piece{C: c.String(), L: i + 1})
	}
	plain.Degree = sum.Sub(sum, big.NewInt(2*n)).String()
	if lits, ok := unit.Run([]pb.Row{of(t, plain)}, []int{-1}); !ok || len(lits) != n || lits[0] != -1 || lits[n-1] != n {
		t.Errorf("P3.2: %d literals, %v", len(lits), ok)
	}
	if lits, ok := unit.Run([]pb.Row{of(t, plain)}, []int{-n}); !ok || len(lits) != n || lits[0] != 1 || lits[n-1] != -n {
		t.Errorf("P3.2: %d literals, %v", len(lits), ok)
	}
}
