package write_test

import (
	"fmt"
	"slices"
	"strings"
	"sync"
	"testing"

	"hallmark/api"
	"hallmark/proof"
	"hallmark/write"
)

// like asks that a log stands as the ledger does, and reads as its steps.
func like(t *testing.T, w *write.Log, l *ledger) {
	t.Helper()
	text := w.Text()
	if text != l.text() || w.Next() != l.next {
		t.Fatalf("%d: %s; want %d: %s", w.Next(), text, l.next, l.text())
	}
	steps := w.Steps()
	read, err := proof.Read(text)
	if err != nil || plain(read) != plain(steps) || len(steps) != len(l.lines) {
		t.Fatalf("%s: %+v, %v; want %+v", text, read, err, steps)
	}
	if again, err := proof.Write(steps); err != nil || again != text {
		t.Fatalf("%s: written as %s, %v", text, again, err)
	}
}

func TestAsTold(t *testing.T) { // P16.1 to P16.5, against a ledger, call by call
	s := newSource(true)
	found := map[[2]int]int{}
	for range 5000 {
		rows, goal := s.Intn(12)-2, s.Intn(2) == 0
		w, l := write.New(rows, goal), newLedger(rows, goal)
		like(t, w, l)
		for range 2 + s.Intn(12) {
			c := s.step()
			if s.Intn(8) == 0 {
				c = s.end()
			}
			id, e := c.on(w)
			if want, f := l.say(c); id != want || e != f {
				t.Fatalf("%s: %+v: %d, %d; want %d, %d", l.text(), c, id, e, want, f)
			}
			found[[2]int{c.step, int(e)}]++
			like(t, w, l)
		}
	}
	for _, step := range []int{api.StepRup, api.StepPol, api.StepSoli, api.StepSolx, api.StepSame, api.StepDel, api.StepEnds} {
		for _, e := range []api.Errno{api.OK, api.ErrWriteRow, api.ErrWriteOver} {
			if found[[2]int{step, int(e)}] < 100 {
				t.Errorf("kind %d, error %d: only %d times", step, e, found[[2]int{step, int(e)}])
			}
		}
	}
}

func TestStepsAreTheCalls(t *testing.T) { // P16.4: what was handed in, as it stood
	s := newSource(false)
	for range 500 {
		w := write.New(3, true)
		want := []api.Step{{Kind: api.StepHead}, {Kind: api.StepCount, N: "3"}}
		for range s.Intn(8) {
			c := s.step()
			step := api.Step{Kind: c.step, Row: c.row, Ops: c.ops}
			switch c.step {
			case api.StepSoli, api.StepSolx:
				step.Lits = c.list
			case api.StepSame:
				step.Ids = []string{fmt.Sprint(c.id)}
			default:
				for _, id := range c.list {
					step.Ids = append(step.Ids, fmt.Sprint(id))
				}
			}
			if _, e := c.on(w); e == api.OK {
				want = append(want, step)
			}
		}
		if plain(w.Steps()) != plain(want) {
			t.Fatalf("%s; want %s", plain(w.Steps()), plain(want))
		}
	}
}

// filled: a list with spare room behind it, all of it the same.
func filled[T any](list []T, more T) []T {
	long := append(slices.Clone(list), more, more, more)
	return long[:len(list)]
}

// room: a call's lists, and what stands behind them.
func (c call) room() string {
	return fmt.Sprint(c.list[:cap(c.list)], c.ops[:cap(c.ops)], c.row.Pieces[:cap(c.row.Pieces)])
}

func fill[T any](list []T, with T) {
	for i := range list[:cap(list)] {
		list[:cap(list)][i] = with
	}
}

func TestNothingIsKept(t *testing.T) { // rule 3: what is handed in is neither changed nor kept
	s := newSource(false)
	for range 500 {
		w, l := write.New(1, true), newLedger(1, true)
		for range 6 {
			c := s.step()
			c.list, c.ops, c.row.Pieces = filled(c.list, 99), filled(c.ops, api.Op{Kind: 99}), filled(c.row.Pieces, api.Piece{C: "99"})
			l.say(c)
			was := c.room()
			c.on(w)
			if c.room() != was {
				t.Fatalf("%+v: %s, and was %s", c, c.room(), was)
			}
			fill(c.list, 77)
			fill(c.ops, api.Op{Kind: 77})
			fill(c.row.Pieces, api.Piece{C: "77", L: 77})
		}
		like(t, w, l)
	}
}

// overwrite fills all lists of a step, and their spare room.
func overwrite(s *api.Step) {
	fill(s.Ops, api.Op{Kind: 77})
	fill(s.Lits, 77)
	fill(s.Ids, "77")
	fill(s.Row.Pieces, api.Piece{C: "77", L: 77})
}

func TestAnswersAreNew(t *testing.T) { // rule 3: no answer is touched by what is done with another one
	s := newSource(false)
	for range 300 {
		w, l := write.New(1, true), newLedger(1, true)
		for range 1 + s.Intn(6) {
			c := s.step()
			c.on(w)
			l.say(c)
		}
		a, b, text := w.Steps(), w.Steps(), w.Text()
		was := plain(b)
		for i := range a {
			ahead := plain(a[i+1:])
			overwrite(&a[i])
			if plain(a[i+1:]) != ahead {
				t.Fatalf("step %d touches those behind it: %s", i, text)
			}
		}
		fill(a, api.Step{Kind: 77})
		if plain(b) != was {
			t.Fatalf("%s became %s", was, plain(b))
		}
		like(t, w, l)
		c := s.step()
		c.on(w)
		l.say(c)
		like(t, w, l)
		if plain(b) != was || text != strings.Join(l.lines[:len(b)], "\n")+"\n" {
			t.Fatalf("an earlier answer became %s", plain(b))
		}
	}
}

func TestTwoDoNotTouch(t *testing.T) { // two logs by turns, and side by side
	s := newSource(true)
	a, b := write.New(3, true), write.New(3, false)
	la, lb := newLedger(3, true), newLedger(3, false)
	for range 200 {
		w, l := a, la
		if s.Intn(2) == 0 {
			w, l = b, lb
		}
		c := s.step()
		c.on(w)
		l.say(c)
		like(t, a, la)
		like(t, b, lb)
	}
	calls := some(200, s.step)
	var wait sync.WaitGroup
	for n := range 8 {
		wait.Go(func() {
			w, l := write.New(n, n%2 == 0), newLedger(n, n%2 == 0)
			for _, c := range calls {
				c.on(w)
				l.say(c)
			}
			if w.Text() != l.text() || w.Next() != l.next {
				t.Errorf("log %d: %s; want %s", n, w.Text(), l.text())
			}
		})
	}
	wait.Wait()
}

func TestLongLogs(t *testing.T) { // many lines, and long ones
	w, l := write.New(1000000, false), newLedger(1000000, false)
	long := clause()
	var hints []int
	for i := range 4000 {
		long.Pieces = append(long.Pieces, api.Piece{C: strings.Repeat("7", 1+i%30), L: -i - 1})
		hints = append(hints, i+1)
	}
	huge := api.Row{Degree: "1" + strings.Repeat("0", 10000)}
	for _, c := range []call{rup(long, hints...), del(hints...), rup(huge), soli(hints...)} {
		id, e := c.on(w)
		if want, _ := l.say(c); id != want || e != api.OK {
			t.Fatalf("%d, %d; want %d", id, e, want)
		}
	}
	for i := range 100000 {
		c := rup(clause(i+1), i+1)
		id, _ := c.on(w)
		if want, _ := l.say(c); id != want {
			t.Fatalf("%d, want %d", id, want)
		}
	}
	last := end(api.Unsat, l.next-1, 0, 0)
	last.on(w)
	l.say(last)
	if w.Text() != l.text() || w.Next() != 1100003 || len(w.Steps()) != len(l.lines) {
		t.Errorf("%d lines, Next %d; want %d, %d", len(w.Steps()), w.Next(), len(l.lines), l.next)
	}
}

func BenchmarkRup(b *testing.B) {
	w := write.New(3, false)
	r := clause(1, 2, -3, 4, 5)
	for b.Loop() {
		w.Rup(r, nil)
	}
}
