package pb_test

import (
	"math"
	"slices"
	"testing"

	"hallmark/api"
	"hallmark/pb"
)

const last = api.MaxLit

func TestOneForm(t *testing.T) { // P2.1
	s := newSource()
	s.each(t, func(r pb.Row) {
		o := of(t, s.plain())
		times, _ := r.Times(s.factor(t))
		div, _ := r.Div(s.factor(t))
		for i, made := range []pb.Row{r, r.Add(o), times, div, r.Saturate(), r.Weaken(1 + s.Intn(vars)), r.Negate()} {
			if f := fault(made); f != "" {
				t.Fatalf("P2.1: of %s, %s, row %d is %s: %s", text(r), text(o), i, text(made), f)
			}
		}
	})
}

func TestZeroRow(t *testing.T) { // P2.1
	var r pb.Row
	if text(r) != ">= 0" || r.Degree().Sign() != 0 || r.Total().Sign() != 0 || r.Greatest() != 0 || r.Contradiction() || !holds(r, 0) {
		t.Errorf("P2.1: Row{} is %s", text(r))
	}
	for i, made := range []pb.Row{r.Add(r), r.Saturate(), r.Weaken(1)} {
		if text(made) != ">= 0" || !pb.Same(r, made) {
			t.Errorf("P2.1: of Row{}, row %d: %s", i, text(made))
		}
	}
}

func TestOf(t *testing.T) { // P2.2
	for _, c := range []struct{ from, want string }{
		{">= 0", ">= 0"}, {">= 3", ">= 3"}, {">= -3", ">= 0"},
		{"1 x1 >= 0", "1 x1 >= 0"}, {"0 x1 >= 1", ">= 1"}, {"-1 x1 >= 0", "1 ~x1 >= 1"}, {"-1 ~x1 >= 0", "1 x1 >= 1"},
		{"-1 x1 >= -1", "1 ~x1 >= 0"}, {"-1 x1 >= -2", "1 ~x1 >= 0"}, {"5 x1 >= -1", "5 x1 >= 0"},
		{"1 x3 2 x1 3 x2 >= 2", "2 x1 3 x2 1 x3 >= 2"}, {"1 ~x3 2 x1 3 ~x2 >= 2", "2 x1 3 ~x2 1 ~x3 >= 2"},
		{"1 x1 2 x1 3 x1 >= 9", "6 x1 >= 9"}, {"1 ~x1 2 ~x1 >= 9", "3 ~x1 >= 9"}, {"1 x1 -1 x1 >= 2", ">= 2"},
		{"1 x1 1 ~x1 >= 1", ">= 0"}, {"1 x1 1 ~x1 >= 5", ">= 4"}, {"5 x2 7 ~x2 >= 9", "2 ~x2 >= 4"}, {"7 x2 5 ~x2 >= 9", "2 x2 >= 4"},
		{"-5 x2 -7 ~x2 >= 0", "2 x2 >= 7"}, {"-5 x2 7 ~x2 >= 0", "12 ~x2 >= 5"}, {"-5 x2 -5 ~x2 >= -5", ">= 0"}, {"-5 x2 -5 ~x2 >= 0", ">= 5"},
		{"1 x1 1 x1073741824 >= 1", "1 x1 1 x1073741824 >= 1"}, {"1 ~x1073741824 1 ~x1 >= 1", "1 ~x1 1 ~x1073741824 >= 1"},
		{"18446744073709551616 x1 1 ~x1 >= 9223372036854775808", "18446744073709551615 x1 >= 9223372036854775807"},
		{"-9223372036854775808 x1 >= -9223372036854775809", "9223372036854775808 ~x1 >= 0"},
		{"9223372036854775807 x1 9223372036854775807 x1 >= 9223372036854775807", "18446744073709551614 x1 >= 9223372036854775807"},
	} {
		if got := text(row(t, c.from)); got != c.want {
			t.Errorf("P2.2: %s: %s, want %s", c.from, got, c.want)
		}
	}
}

func TestOfGoesBySteps(t *testing.T) { // P2.2
	s := newSource()
	for range 5000 {
		from := s.plain()
		if got, want := text(of(t, from)), words(stepped(from, false)); got != want {
			t.Fatalf("P2.2: %s: %s, want %s", words(from), got, want)
		}
	}
}

func TestOfSaysTheSame(t *testing.T) { // P2.2
	s := newSource()
	for range 3000 {
		from := s.plain()
		r := of(t, from)
		for bits := range 1 << vars {
			if holds(r, bits) != says(from, bits) {
				t.Fatalf("P2.2: %s is %s: not the same of %b", words(from), text(r), bits)
			}
		}
	}
}

func TestOfManyPieces(t *testing.T) { // P2.2
	const n = 200000
	from := api.Row{Degree: "1"}
	for i := range n {
		from.Pieces = append(from.Pieces, api.Piece{C: "1", L: n - i/2}, api.Piece{C: "2", L: i/2 - n})
	}
	r := of(t, from)
	if p := r.Plain(); len(p.Pieces) != n/2 || p.Degree != "0" || p.Pieces[0] != (api.Piece{C: "2", L: -n/2 - 1}) || r.Greatest() != n {
		t.Errorf("P2.2: %d pieces, degree %s, last variable %d", len(p.Pieces), p.Degree, r.Greatest())
	}
}

func TestOfRefuses(t *testing.T) { // P2.2
	number, lit := api.ErrPbNumber, api.ErrPbLit
	for _, c := range []struct {
		from api.Row
		want api.Errno
	}{
		{api.Row{}, number}, {api.Row{Degree: "x"}, number}, {api.Row{Degree: "-0"}, number}, {api.Row{Degree: "01"}, number}, {api.Row{Degree: " 1"}, number},
		{api.Row{Pieces: []api.Piece{{C: "", L: 1}}, Degree: "0"}, number},
		{api.Row{Pieces: []api.Piece{{C: "+1", L: 1}}, Degree: "0"}, number},
		{api.Row{Pieces: []api.Piece{{C: "1", L: 0}}, Degree: "0"}, lit},
		{api.Row{Pieces: []api.Piece{{C: "0", L: 0}}, Degree: "0"}, lit},
		{api.Row{Pieces: []api.Piece{{C: "1", L: last + 1}}, Degree: "0"}, lit},
		{api.Row{Pieces: []api.Piece{{C: "1", L: -last - 1}}, Degree: "0"}, lit},
		{api.Row{Pieces: []api.Piece{{C: "1", L: math.MaxInt}}, Degree: "0"}, lit},
		{api.Row{Pieces: []api.Piece{{C: "1", L: math.MinInt}}, Degree: "0"}, lit},
		{api.Row{Pieces: []api.Piece{{C: "x", L: 0}}, Degree: "0"}, number},
		{api.Row{Pieces: []api.Piece{{C: "1", L: 0}, {C: "x", L: 1}}, Degree: "0"}, lit},
		{api.Row{Pieces: []api.Piece{{C: "x", L: 1}, {C: "1", L: 0}}, Degree: "0"}, number},
		{api.Row{Pieces: []api.Piece{{C: "1", L: 1}, {C: "1", L: 0}}, Degree: "x"}, lit},
		{api.Row{Pieces: []api.Piece{{C: "1", L: 1}, {C: "2", L: 2}}, Degree: "x"}, number},
	} {
		r, e := pb.Of(c.from)
		if e != c.want || !pb.Same(r, pb.Row{}) {
			t.Errorf("P2.2: %s: %s, error %d, want %d", words(c.from), text(r), e, c.want)
		}
	}
}

func TestLit(t *testing.T) { // P2.3
	for l, want := range map[int]string{1: "1 x1 >= 0", -7: "1 ~x7 >= 0", last: "1 x1073741824 >= 0", -last: "1 ~x1073741824 >= 0"} {
		if r, e := pb.Lit(l); text(r) != want || e != api.OK {
			t.Errorf("P2.3: Lit(%d): %s, error %d", l, text(r), e)
		}
	}
	for _, l := range []int{0, last + 1, -last - 1, math.MaxInt, math.MinInt} {
		if r, e := pb.Lit(l); !pb.Same(r, pb.Row{}) || e != api.ErrPbLit {
			t.Errorf("P2.3: Lit(%d): %s, error %d", l, text(r), e)
		}
	}
}

func TestClause(t *testing.T) { // P2.3
	for _, c := range []struct {
		lits []int
		want string
	}{
		{nil, ">= 1"}, {[]int{}, ">= 1"}, {[]int{5}, "1 x5 >= 1"}, {[]int{3, -1, 2}, "1 ~x1 1 x2 1 x3 >= 1"}, {[]int{-last, last - 1}, "1 x1073741823 1 ~x1073741824 >= 1"},
		{[]int{4, 4}, "2 x4 >= 1"}, {[]int{4, -4}, ">= 0"}, {[]int{4, -4, 4}, "1 x4 >= 0"}, {[]int{3, -1, 3, 2, -2}, "1 ~x1 2 x3 >= 0"},
	} {
		if r, e := pb.Clause(c.lits); text(r) != c.want || e != api.OK {
			t.Errorf("P2.3: Clause(%v): %s, error %d, want %s", c.lits, text(r), e, c.want)
		}
	}
	for _, lits := range [][]int{{0}, {1, 0}, {0, 1}, {1, 2, last + 1}, {-last - 1}, {math.MinInt}, {1, math.MaxInt}} {
		if r, e := pb.Clause(lits); !pb.Same(r, pb.Row{}) || e != api.ErrPbLit {
			t.Errorf("P2.3: Clause(%v): %s, error %d", lits, text(r), e)
		}
	}
}

func TestTells(t *testing.T) { // P2.4
	for _, c := range []struct {
		from, degree, total string
		greatest            int
		contradiction       bool
	}{
		{">= 0", "0", "0", 0, false}, {">= 1", "1", "0", 0, true},
		{"3 x1 2 x2 >= 4", "4", "5", 2, false}, {"3 x1 2 x2 >= 5", "5", "5", 2, false}, {"3 x1 2 x2 >= 6", "6", "5", 2, true},
		{"1 x2 1 ~x9 >= 0", "0", "2", 9, false}, {"1 x1073741824 >= 1", "1", "1", last, false},
		{"9223372036854775807 x1 9223372036854775807 x2 >= 18446744073709551614", "18446744073709551614", "18446744073709551614", 2, false},
		{"9223372036854775807 x1 9223372036854775807 x2 >= 18446744073709551615", "18446744073709551615", "18446744073709551614", 2, true},
	} {
		r := row(t, c.from)
		if r.Degree().Text() != c.degree || r.Total().Text() != c.total || r.Greatest() != c.greatest || r.Contradiction() != c.contradiction || text(r) != c.from {
			t.Errorf("P2.4: %s is %s: degree %s, total %s, greatest %d, contradiction %v", c.from, text(r), r.Degree().Text(), r.Total().Text(), r.Greatest(), r.Contradiction())
		}
	}
}

func TestHolds(t *testing.T) { // P2.4
	s := newSource()
	s.each(t, func(r pb.Row) {
		var its []int
		for _, p := range r.Plain().Pieces {
			its = append(its, max(p.L, -p.L))
		}
		for bits := range 1 << vars {
			got := r.Holds(func(v int) bool {
				if !slices.Contains(its, v) {
					t.Fatalf("P2.4: %s: asked of %d", text(r), v)
				}
				return isTrue(bits, v)
			})
			if got != says(r.Plain(), bits) {
				t.Fatalf("P2.4: %s: Holds of %b is %v", text(r), bits, got)
			}
		}
	})
	for _, c := range []struct {
		from string
		bits int
		want bool
	}{{">= 0", 0, true}, {">= 1", 0, false}, {"3 x1 2 ~x2 >= 3", 0, false}, {"3 x1 2 ~x2 >= 3", 1, true}, {"3 x1 2 ~x2 >= 3", 3, true}, {"3 x1 2 ~x2 >= 4", 3, false}} {
		if got := holds(row(t, c.from), c.bits); got != c.want {
			t.Errorf("P2.4: %s: Holds of %b is %v", c.from, c.bits, got)
		}
	}
}

func TestSame(t *testing.T) { // P2.4
	wide := "9223372036854775808"
	rows := []string{
		">= 0", ">= 1", "3 x1 2 x2 >= 4", "3 x1 2 x2 >= 5", "3 x1 2 ~x2 >= 4", "3 x1 1 x2 >= 4", "2 x1 2 x2 >= 4", "3 x1 2 x3 >= 4", "3 x1 >= 4", "3 x1 2 x2 1 x3 >= 4",
		wide + " x1 >= 1", wide + "0 x1 >= 1", "1 x1 >= " + wide, "1 x1 >= " + wide + "0",
	}
	for i, a := range rows {
		for j, b := range rows {
			if got := pb.Same(row(t, a), row(t, b)); got != (i == j) {
				t.Errorf("P2.4: Same of %s and %s is %v", a, b, got)
			}
		}
	}
	if !pb.Same(row(t, "2 x2 1 x1 2 x1 >= 4"), row(t, "3 x1 2 x2 >= 4")) || !pb.Same(row(t, wide+" x1 "+wide+" x2 >= 1"), row(t, wide+" x2 "+wide+" x1 >= 1")) || !pb.Same(pb.Row{}, row(t, ">= -3")) {
		t.Errorf("P2.4: rows made by other ways aren't the same")
	}
}

func TestSameIsPlain(t *testing.T) { // P2.4
	s := newSource()
	s.each(t, func(r pb.Row) {
		o := of(t, s.plain())
		if s.Intn(2) == 0 {
			o = of(t, r.Plain())
		}
		if pb.Same(r, o) != (text(r) == text(o)) || pb.Same(r, o) != pb.Same(o, r) {
			t.Fatalf("P2.4: Same of %s and %s is %v", text(r), text(o), pb.Same(r, o))
		}
	})
}

// TestWhatIsHandedIn: it is neither changed nor kept; what is answered is new memory.
func TestWhatIsHandedIn(t *testing.T) { // P2.2, P2.3, P2.4
	pieces := []api.Piece{{C: "2", L: 3}, {C: "-1", L: 1}, {C: "5", L: 2}, {C: "7", L: 9}}
	from := api.Row{Pieces: pieces[:3], Degree: "4"}
	kept := slices.Clone(pieces)
	r := of(t, from)
	lits := []int{3, -1, 2, 9}
	c, _ := pb.Clause(lits[:3])
	if !slices.Equal(pieces, kept) || !slices.Equal(lits, []int{3, -1, 2, 9}) {
		t.Errorf("rule 3: what was handed in is now %v, %v", pieces, lits)
	}
	pieces[0], lits[0] = api.Piece{C: "1", L: 1}, 8
	a, b := r.Plain(), r.Plain()
	a.Pieces[0] = api.Piece{C: "9", L: 9}
	_ = append(a.Pieces[:1], api.Piece{C: "8", L: 8})
	want := "1 ~x1 5 x2 2 x3 >= 5"
	if text(r) != want || words(b) != want || text(c) != "1 ~x1 1 x2 1 x3 >= 1" {
		t.Errorf("rule 3: %s, %s, %s", text(r), words(b), text(c))
	}
}
