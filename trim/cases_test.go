package trim_test

import (
	"fmt"
	"strings"
	"testing"
)

// log: so many rows, the steps, which have slashes between two, and, last, the
// conclusion.
func log(rows int, list string) string {
	lines := strings.Split(list, " / ")
	end := len(lines) - 1
	all := append([]string{head, fmt.Sprint("f ", rows)}, lines[:end]...)
	return strings.Join(append(all, "output NONE", "conclusion "+lines[end], last), "\n") + "\n"
}

// The problem of the chapter's example; and others.
const (
	two   = "var x 0 1\nlin >= 2 1 x\nlin <= 0 1 x\n"                                     // row 1 is a contradiction
	three = "var x 0 1\nlin >= 1 1 x\nlin <= 9 1 x\nlin <= 0 1 x\n"                       // rows 1 and 3 together are one
	free  = "var x 0 1\n"                                                                 // no rows
	goal  = "var x 0 3\nlin <= 9 1 x\nlin >= 2 1 x\nminimize 1 x\n"                       // row 4 says that the worth is at least 2
	pair  = "var x 0 1\nvar y 0 1\nlin >= 0 1 x\nne x y 0\n"                              // rows 2 and 3 are the ne's
	long  = "var x 0 1\nvar y 0 1\nlin >= 1 1 x 1 y\nlin <= 1 1 x 1 y\nlin = 1 2 x 2 y\n" // row 3: at most 0; row 4: at least 1
)

// expect: a problem, how many rows it has, a log's lines, those of the trimmed
// one, and the constraints.
type expect struct {
	m       string
	rows    int
	in, out string
	cons    string
}

func (c expect) ask(t *testing.T) {
	t.Helper()
	got := held(t, c.m, log(c.rows, c.in), true)
	if want := log(c.rows, c.out); got.log != want || fmt.Sprint(got.cons) != c.cons {
		t.Errorf("P19.2 to P19.4: %q: %s:\n%s%v, want\n%s%s", c.m, c.in, got.log, got.cons, want, c.cons)
	}
}

// TestNone: nothing is claimed, so that nothing is needed.
func TestNone(t *testing.T) { // P19.3, P19.4
	for _, c := range []expect{
		{two, 2, "NONE", "NONE", "[]"}, {two, 2, "rup 1 x1 >= 1 ; / * a remark /  / pol 1 2 + / e 4 >= 2 ; / del id 3 4 / NONE", "NONE", "[]"},
		{free, 0, "soli x1 / NONE", "NONE", "[]"}, {free, 0, "solx x1 / solx ~x1 / pol 1 2 + / NONE", "NONE", "[]"}, {free, 0, "soli x1 / soli x1 / NONE", "NONE", "[]"}, {goal, 4, "soli x3 / soli ~x3 / pol 6 4 + / NONE", "NONE", "[]"},
	} {
		c.ask(t)
	}
}

func TestUnsat(t *testing.T) { // P19.2, P19.3, P19.4
	for _, c := range []expect{
		{two, 2, "UNSAT : 1", "UNSAT : 1", "[0]"}, {two, 2, "rup 1 x1 >= 1 ; / * a remark / UNSAT : 1", "UNSAT : 1", "[0]"}, {two, 2, "rup >= 1 ; / UNSAT : 1", "UNSAT : 1", "[0]"},
		{two, 2, "rup >= 1 ; / UNSAT : 3", "rup >= 1 ; 1 / UNSAT : 3", "[0]"}, {two, 2, "rup >= 1 ; 2 1 2 1 / UNSAT : 3", "rup >= 1 ; 1 / UNSAT : 3", "[0]"}, {two, 2, "pol 2 1 + / UNSAT : 3", "pol 2 1 + / UNSAT : 3", "[0 1]"},
		{three, 3, "rup >= 1 ; / UNSAT : 4", "rup >= 1 ; 1 3 / UNSAT : 4", "[0 2]"}, {three, 3, "rup >= 1 ; 3 2 1 / UNSAT : 4", "rup >= 1 ; 1 3 / UNSAT : 4", "[0 2]"}, {three, 3, "pol 3 1 + / UNSAT : 4", "pol 3 1 + / UNSAT : 4", "[0 2]"},
		// ids are other ones then, and numbers that are no ids aren't
		{three, 3, "pol 2 / pol 1 / pol 3 / rup >= 1 ; 6 4 5 / UNSAT : 7", "pol 1 / pol 3 / rup >= 1 ; 4 5 / UNSAT : 6", "[0 2]"}, {three, 3, "pol 2 / pol 1 5 * 5 d / pol 5 3 + / del id 5 / UNSAT : 6", "pol 1 5 * 5 d / pol 4 3 + / UNSAT : 5", "[0 2]"}, {three, 3, "pol 2 / pol 1 / pol 5 5 * 3 4 * + s / UNSAT : 6", "pol 1 / pol 4 5 * 3 4 * + s / UNSAT : 5", "[0 2]"}, {three, 3, "pol 1 x1 w / pol x1 1 + 3 2 * + / UNSAT : 5", "pol x1 1 + 3 2 * + / UNSAT : 4", "[0 2]"},
		// what was deleted, and what is the same
		{three, 3, "pol 1 / e 4 1 x1 >= 1 ; / pol 3 / del id 4 / pol 1 / rup >= 1 ; 5 6 / del id 5 6 / e 7 >= 1 ; / UNSAT : 7", "pol 3 / pol 1 / rup >= 1 ; 4 5 / UNSAT : 6", "[0 2]"},
		// a row that no row must show; it stays, since a pol names it
		{three, 3, "rup >= 0 ; / pol 4 1 + 3 + / UNSAT : 5", "rup >= 0 ; / pol 4 1 + 3 + / UNSAT : 5", "[0 2]"}, {three, 3, "rup 3 x1 >= -7 ; 2 1 / pol 4 1 + 3 + 3 + 3 + 3 + 1 + / UNSAT : 5", "rup 3 x1 >= -7 ; / pol 4 1 + 3 + 3 + 3 + 3 + 1 + / UNSAT : 5", "[0 2]"}, {three, 3, "rup 1 x1 1 ~x1 >= 1 ; / rup >= 1 ; 4 3 1 / UNSAT : 5", "rup >= 1 ; 1 3 / UNSAT : 4", "[0 2]"},
		// a row as it was written, not in the one form
		{three, 3, "rup 1 x1 -1 x1 1 ~x1 1 ~x1 >= 3 ; / UNSAT : 4", "rup 1 x1 -1 x1 1 ~x1 1 ~x1 >= 3 ; 1 3 / UNSAT : 4", "[0 2]"},
		// of what is known some other way no line is needed
		{three, 3, "rup 1 x1 >= 1 ; / rup 1 ~x1 >= 1 ; / rup >= 1 ; / UNSAT : 6", "rup >= 1 ; 1 3 / UNSAT : 4", "[0 2]"}, {three, 3, "rup 1 x1 >= 1 ; / rup 1 ~x1 >= 1 ; / rup >= 1 ; 4 5 / UNSAT : 6", "rup 1 x1 >= 1 ; 1 / rup 1 ~x1 >= 1 ; 3 / rup >= 1 ; 4 5 / UNSAT : 6", "[0 2]"},
		{long, 4, "pol 3 2 d / pol 4 2 d / pol 5 6 + / UNSAT : 7", "pol 3 2 d / pol 4 2 d / pol 5 6 + / UNSAT : 7", "[2]"}, {long, 4, "rup 1 x1 >= 1 ; / pol 4 2 d / rup 1 ~x1 >= 1 ; / rup 1 ~x2 >= 1 ; / rup >= 1 ; 4 8 3 / UNSAT : 9", "rup >= 1 ; 3 4 / UNSAT : 5", "[2]"},
	} {
		c.ask(t)
	}
}

func TestSat(t *testing.T) { // P19.3, P19.4
	for _, c := range []expect{
		{free, 0, "soli x1 / SAT", "soli x1 / SAT", "[]"}, {free, 0, "soli ~x1 / soli x1 / * x / SAT", "soli x1 / SAT", "[]"}, {free, 0, "solx x1 / soli ~x1 / SAT", "soli ~x1 / SAT", "[]"}, {free, 0, "soli x1 / solx ~x1 / SAT", "solx ~x1 / SAT", "[]"}, {free, 0, "solx x1 / solx ~x1 / pol 1 2 + / rup 1 x1 >= 1 ; 3 / SAT", "solx ~x1 / SAT", "[]"}, {free, 0, "soli x1 / rup >= 0 ; / del id 1 / SAT", "soli x1 / SAT", "[]"},
		{pair, 3, "rup 1 x1 1 x2 >= 1 ; 2 / soli x1 / SAT", "soli x1 / SAT", "[]"}, {"var x 7 7\nlin >= 7 1 x\n", 1, "soli / SAT", "soli / SAT", "[]"},
	} {
		c.ask(t)
	}
}

func TestBounds(t *testing.T) { // P19.3, P19.4
	for _, c := range []expect{
		{goal, 4, "* x / soli x1 x2 x3 / rup 1 x2 >= 1 ; / soli x1 x2 ~x3 / pol 1 2 + / rup >= 1 ; / BOUNDS 2 : 9 2", "rup 1 x2 >= 1 ; 2 4 / soli x1 x2 ~x3 / rup >= 1 ; 1 5 6 / BOUNDS 2 : 7 2", "[1]"},
		{goal, 4, "soli x3 / soli ~x3 / BOUNDS 2 : 4 2", "soli ~x3 / BOUNDS 2 : 4 2", "[1]"}, {goal, 4, "soli x3 / soli ~x3 / BOUNDS 0 2", "soli ~x3 / BOUNDS 0 2", "[]"}, {goal, 4, "soli x3 / soli ~x3 / BOUNDS 1 : 4 2", "soli ~x3 / BOUNDS 1 : 4 2", "[1]"},
		{goal, 4, "soli x3 / soli ~x3 / pol 6 4 + / BOUNDS 2 : 7 2", "soli ~x3 / pol 5 4 + / BOUNDS 2 : 6 2", "[1]"}, {goal, 4, "soli x3 / pol 5 / soli ~x3 / pol 6 4 + 7 + 4 + / BOUNDS 2 : 8 2", "soli x3 / pol 5 / soli ~x3 / pol 6 4 + 7 + 4 + / BOUNDS 2 : 8 2", "[1]"}, {goal, 4, "soli x3 / soli ~x3 / pol 6 4 + / rup >= 1 ; 7 4 5 / BOUNDS 2 : 8 2", "soli ~x3 / pol 5 4 + / rup >= 1 ; 6 / BOUNDS 2 : 7 2", "[1]"},
		{"var x 0 1\nminimize 1 x\n", 0, "soli x1 / soli ~x1 / rup >= 1 ; / BOUNDS 0 : 2 0", "soli ~x1 / BOUNDS 0 : 1 0", "[]"}, {"var x 0 1\nminimize 1 x\n", 0, "soli x1 / BOUNDS 0 1", "soli x1 / BOUNDS 0 1", "[]"}, {"var x 0 1\nminimize 1 x\n", 0, "soli x1 / soli ~x1 / BOUNDS -7 0", "soli ~x1 / BOUNDS -7 0", "[]"},
	} {
		c.ask(t)
	}
}

func TestAll(t *testing.T) { // P19.3, P19.4
	for _, c := range []expect{
		{free, 0, "solx x1 / solx ~x1 / pol 1 2 + / e 3 >= 1 ; / ALL 2 : 3", "solx x1 / solx ~x1 / pol 1 2 + / ALL 2 : 3", "[]"}, {free, 0, "rup >= 0 ; / solx x1 / * x / solx ~x1 / rup >= 1 ; / del id 1 / ALL 2 : 4", "solx x1 / solx ~x1 / rup >= 1 ; 1 2 / ALL 2 : 3", "[]"},
		{pair, 3, "pol 1 / solx x1 ~x2 / solx ~x1 / rup 1 x1 >= 1 ; / rup 1 x1 >= 1 ; 6 3 2 / rup >= 1 ; / ALL 2 : 9", "solx x1 ~x2 / solx ~x1 / rup 1 x1 >= 1 ; 2 5 / rup >= 1 ; 3 4 6 / ALL 2 : 7", "[1]"},
		{two, 2, "ALL 0 : 1", "ALL 0 : 1", "[0]"}, {"var x 7 7\nlin <= 7 1 x\n", 1, "pol 1 / solx / ALL 1 : 3", "solx / ALL 1 : 2", "[]"},
	} {
		c.ask(t)
	}
}
