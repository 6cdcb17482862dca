package hall_test

import (
	"fmt"
	"slices"
	"testing"

	"hallmark/api"
	"hallmark/dom"
	"hallmark/hall"
)

func TestEveryVariable(t *testing.T) { // P13.1 to P13.3
	const n, wide = api.MaxVars, api.MaxDomain
	same := storeOf(t, repeat(n, [2]int{0, n - 1}))
	expect(t, "as many as values", upTo(n), same, "[] true", fine)
	expect(t, "one place more", append(upTo(n), 0), same, bad, fmt.Sprintf("{0 31 %v} true", append(upTo(n), 0)))
	whole := storeOf(t, repeat(n, [2]int{-31, 32}))
	expect(t, "all that there may be", upTo(n), whole, "[] true", fine)
	expect(t, "each twice fills it", append(upTo(n), upTo(n)...), whole, "[] true", fine)
	expect(t, "and once more", append(append(upTo(n), 7), upTo(n)...), whole, bad, fmt.Sprintf("{-31 32 %v} true", append(append(upTo(n), 7), upTo(n)...)))
	for x := range n { // each by itself, 64 times, against another one
		y := (x + 9) % n
		xs := append(repeat(wide, x), y)
		other := storeOf(t, repeat(n, [2]int{0, wide - 1}), api.Cut{Kind: api.AtLeast, X: y, V: 60})
		expect(t, "one too many", xs, other, bad, fmt.Sprintf("{0 63 %v} true", xs))
		one := repeat(n, [2]int{0, 9})
		one[y] = [2]int{4, 4}
		expect(t, "one value", []int{x, y}, storeOf(t, one), fmt.Sprintf("[{0 {3 %d 4} {4 4 [%d]}}] true", x, y), fine)
	}
	stairs := make([][2]int, n)
	for x := range stairs {
		stairs[x] = [2]int{0, n - 1 - x}
	}
	l, _, ok := agrees(t, upTo(n), storeOf(t, stairs))
	if !ok || len(l) != n*(n-1)/2 {
		t.Errorf("P13.3: stairs: %d, %v", len(l), ok)
	}
}

func TestNumbersAtTheEnds(t *testing.T) { // P13.1 to P13.3
	const v = api.MaxValue
	d := storeOf(t, [][2]int{{-v, -v}, {v, v}, {-v, 63 - v}, {v - 63, v}, {0, 0}, {v - 1, v}, {v - 1, v}})
	expect(t, "the ends", []int{0, 1, 2, 3, 4}, d, fmt.Sprintf("[{0 {3 2 %d} {%d %d [0]}} {0 {3 3 %d} {%d %d [1]}}] true", -v, -v, -v, v, v, v), fine)
	expect(t, "the greatest two", []int{3, 5, 6}, d, fmt.Sprintf("[{0 {3 3 %d} {%d %d [5 6]}} {0 {3 3 %d} {%d %d [5 6]}}] true", v-1, v-1, v, v, v-1, v), fine)
	expect(t, "three of two", []int{1, 5, 6}, d, bad, fmt.Sprintf("{%d %d [1 5 6]} true", v-1, v))
	expect(t, "the least one, twice", []int{4, 0, 1, 0}, d, bad, fmt.Sprintf("{%d %d [0 0]} true", -v, -v))
}

// TestFarApart: a full interval over several variables' whole range.
func TestFarApart(t *testing.T) { // P13.1 to P13.3
	var ends [][2]int
	for x := range api.MaxVars - 1 {
		ends = append(ends, [2]int{64 * x, 64*x + 63})
	}
	ends = append(ends, [2]int{40, 103})
	d := storeOf(t, ends)
	var xs []int
	for x := range api.MaxVars - 1 {
		xs = append(xs, repeat(api.MaxDomain, x)...)
	}
	if l, ok := hall.Cuts(xs, d); !ok || len(l) != 0 {
		t.Errorf("P13.3: all full, none outside: %d, %v", len(l), ok)
	}
	xs = append(xs, api.MaxVars-1)
	if h, over := hall.Fails(xs, d); !over || h.From != 0 || h.To != 127 || len(h.Xs) != 129 {
		t.Errorf("P13.2: one more: %d to %d, %d places, %v", h.From, h.To, len(h.Xs), over)
	}
}

func TestManyPlaces(t *testing.T) { // P13.1 to P13.3
	d := example(t)
	const many = 1000000
	xs := repeat(many, 1)
	h, over := hall.Fails(xs, d)
	if !over || h.From != 1 || h.To != 2 || !slices.Equal(h.Xs, xs) {
		t.Errorf("P13.2: %d to %d, %d places, %v", h.From, h.To, len(h.Xs), over)
	}
	if l, ok := hall.Cuts(xs, d); ok || len(l) != 0 {
		t.Errorf("P13.3: %v, %v", l, ok)
	}
	for i := range xs {
		xs[i] = -1 - i
	}
	xs[many/2], xs[many-1] = 3, 2
	if l, ok := hall.Cuts(xs, d); fmt.Sprint(l, ok) != "[{0 {3 2 4} {4 4 [3]}}] true" {
		t.Errorf("P13.3: two among many: %v, %v", l, ok)
	}
}

// TestNothingIsTouched: DOC.md, What holds everywhere, 3 and 6.
func TestNothingIsTouched(t *testing.T) {
	for i, xs := range [][]int{{0, 9, 1, 2, -1, 3}, {2, 1, 0, 0}, nil, {3, 2}} {
		d := example(t)
		d.Mark()
		d.Cut(not(2, 3))
		before := d.Copy()
		room := append(slices.Clone(xs), 1, 2, 3, 77)
		given := room[:len(xs)]
		l, h, _ := agrees(t, given, d)
		if want := append(slices.Clone(xs), 1, 2, 3, 77); !slices.Equal(room, want) {
			t.Errorf("%d: places %v, were %v", i, room, want)
		}
		if !dom.Same(d, before) || d.Mark() != 1 || !d.Back(1) || !d.Back(0) || d.Size(2) != 4 {
			t.Errorf("%d: the store: %s", i, shown(d))
		}
		text := fmt.Sprint(l, h)
		clear(room)
		if now := fmt.Sprint(l, h); now != text {
			t.Errorf("%d: an answer hangs on the places: %s, was %s", i, now, text)
		}
	}
}

// TestAnswersAreNewMemory: DOC.md, What holds everywhere, 3.
func TestAnswersAreNewMemory(t *testing.T) {
	d, xs := example(t), []int{0, 1, 2, 3}
	one, _ := hall.Cuts(xs, d)
	two, _ := hall.Cuts(xs, d)
	for i := range one {
		list := one[i].Hall.Xs
		for k := range list[:cap(list)] {
			list[:cap(list)][k] = 99
		}
		one[i].Hall = api.Hall{}
		if got, want := fmt.Sprint(one[i+1:]), fmt.Sprint(two[i+1:]); got != want {
			t.Errorf("two lists of one answer: %s, want %s", got, want)
		}
	}
	clear(one[:cap(one)])
	three, ok := hall.Cuts(xs, d)
	if fmt.Sprint(two, ok) != all4 || fmt.Sprint(three, ok) != all4 {
		t.Errorf("another answer is touched: %v, %v", two, three)
	}
	over := []int{0, 1, 0}
	first, _ := hall.Fails(over, d)
	for k := range first.Xs[:cap(first.Xs)] {
		first.Xs[:cap(first.Xs)][k] = 99
	}
	if second, ok := hall.Fails(over, d); fmt.Sprint(second, ok, over) != "{1 2 [0 1 0]} true [0 1 0]" {
		t.Errorf("another answer is touched: %v, %v, %v", second, ok, over)
	}
}

// TestSideBySide: calls at the same time answer what they answer by themselves.
func TestSideBySide(t *testing.T) {
	d := example(t)
	done := make(chan string)
	for range 8 {
		go func() {
			for range 200 {
				l, ok := hall.Cuts([]int{0, 1, 2, 3}, d)
				if got := fmt.Sprint(l, ok); got != all4 {
					done <- got
					return
				}
			}
			done <- all4
		}()
	}
	for range 8 {
		if got := <-done; got != all4 {
			t.Error(got)
		}
	}
}

// BenchmarkCuts: sixteen sure values, and sixteen variables that have lost them.
func BenchmarkCuts(b *testing.B) {
	var ends [][2]int
	for x := range api.MaxVars {
		ends = append(ends, [2]int{0, 63})
		if x < api.MaxVars/2 {
			ends[x] = [2]int{20 + x, 20 + x}
		}
	}
	d := storeOf(b, ends)
	l, _ := hall.Cuts(upTo(api.MaxVars), d)
	for _, c := range l {
		d.Cut(c.Cut)
	}
	for b.Loop() {
		hall.Cuts(upTo(api.MaxVars), d)
	}
}
