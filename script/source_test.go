package script_test

import (
	"errors"
	"fmt"
	"math/rand"
	"slices"
	"strings"
	"testing"

	"hallmark/api"
	"hallmark/script"
)

// source: acts, problems and logs by chance, the same ones in each run.
type source struct{ *rand.Rand }

func newSource(seed int64) source { return source{rand.New(rand.NewSource(seed))} }

// one: one of several.
func one[T any](s source, list ...T) T { return list[s.Intn(len(list))] }

// some: so many things.
func some[T any](n int, make func() T) []T {
	var all []T
	for range n {
		all = append(all, make())
	}
	return all
}

// whole: a number that may stand in a session, small ones above all.
func (s source) whole() int {
	return one(s, 0, 1, 2, 3, s.Intn(10), -s.Intn(10), s.Intn(100000), -s.Intn(100000), 1<<40, -1<<40, s.Intn(1<<40))
}

// bytes: a text of any bytes, those that stand as themselves above all.
func (s source) bytes() string {
	return strings.Join(some(s.Intn(8), func() string {
		return one(s, "a", " ", "#", "\"", "\\", "x", "\n", "\t", "~", "\x00", "\x1f", "\x7f", "\x80", "\xff", "é", string([]byte{byte(s.Intn(256))}))
	}), "")
}

// act: an act of any kind that has a text.
func (s source) act() api.Act {
	a := api.Act{Kind: 1 + s.Intn(12)}
	switch a.Kind {
	case api.ActProblem, api.ActLog:
		a.Text = s.bytes()
	case api.ActSolve, api.ActAll, api.ActHolds:
		a.List = some(s.Intn(4), s.whole)
	case api.ActTry:
		a.N, a.List = s.whole(), some(s.Intn(4), s.whole)
	case api.ActDrop:
		a.N = s.whole()
	case api.ActChange:
		a.N, a.Text = s.whole(), s.bytes()
	}
	return a
}

// text: a quoted text, written byte by byte.
func text(s string) string {
	var out strings.Builder
	for _, b := range []byte(s) {
		switch {
		case b == '"' || b == '\\':
			out.WriteString(`\` + string(rune(b)))
		case b < ' ' || b > '~':
			fmt.Fprintf(&out, `\x%02x`, b)
		default:
			out.WriteByte(b)
		}
	}
	return `"` + out.String() + `"`
}

// pieces goes by the table of P20.4: what stands in an act's line.
func pieces(a api.Act) []string {
	words := []string{strings.Fields("? problem log solve try check trim drop change show holds all core")[a.Kind]}
	switch a.Kind {
	case api.ActTry, api.ActDrop, api.ActChange:
		words = append(words, fmt.Sprint(a.N))
	}
	switch a.Kind {
	case api.ActProblem, api.ActLog, api.ActChange:
		words = append(words, text(a.Text))
	}
	return append(words, strings.Fields(strings.Trim(fmt.Sprint(a.List), "[]"))...)
}

// written: the text that acts have.
func written(l ...api.Act) string {
	out := ""
	for _, a := range l {
		out += strings.Join(pieces(a), " ") + "\n"
	}
	return out
}

// gap: blanks and tabs, at least so many.
func (s source) gap(least int) string {
	out := ""
	for len(out) < least || s.Intn(3) == 0 {
		out += one(s, " ", "\t")
	}
	return out
}

// spaced writes a line's pieces with blanks and tabs wherever they may be, and
// perhaps with a comment. Next to a quoted text none is needed.
func (s source) spaced(words []string) string {
	line := s.gap(0)
	for i, w := range words {
		least := 1
		if i == len(words)-1 || strings.HasSuffix(w, `"`) || strings.HasPrefix(words[i+1], `"`) {
			least = 0
		}
		line += w + s.gap(least)
	}
	return line + one(s, "", "", "#", "# a comment", "#\"", "# check \\ \xff")
}

func alike(a, b api.Act) bool {
	return a.Kind == b.Kind && a.N == b.N && a.Text == b.Text && slices.Equal(a.List, b.List)
}

// reads asks that a session has just these acts.
func reads(t *testing.T, s string, want ...api.Act) {
	t.Helper()
	if l, err := script.Parse(s); err != nil || !slices.EqualFunc(l, want, alike) {
		t.Errorf("Parse(%.300q) = %.300s, %v; want %.300s", s, fmt.Sprint(l), err, fmt.Sprint(want))
	}
}

// faulty asks that an error is a session's fault.
func faulty(t *testing.T, err error, line int, e api.Errno) {
	t.Helper()
	if f, ok := err.(*api.Fault); !ok || *f != (api.Fault{In: api.InScript, Line: line, Err: e}) || !errors.Is(err, e) {
		t.Errorf("%v, want %d at %d", err, e, line)
	}
}

// fails asks that a session has a fault, and that nothing is told beside it.
func fails(t *testing.T, s string, line int, e api.Errno) {
	t.Helper()
	l, err := script.Parse(s)
	told, again := script.Play(s)
	if len(l) != 0 || told != "" {
		t.Errorf("%.300q: %v, %q beside a fault", s, l, told)
	}
	faulty(t, err, line, e)
	faulty(t, again, line, e)
	if t.Failed() {
		t.Fatalf("of %.300q", s)
	}
}

// prints asks that acts have a text.
func prints(t *testing.T, want string, l ...api.Act) {
	t.Helper()
	if s, err := script.Print(l); err != nil || s != want {
		t.Errorf("Print(%.300s) = %.300q, %v; want %.300q", fmt.Sprint(l), s, err, want)
	}
}

// refuses asks that the acts up to a place, from 1 on, are the first ones that have no text.
func refuses(t *testing.T, at int, l ...api.Act) {
	t.Helper()
	s, err := script.Print(l)
	if s != "" {
		t.Errorf("Print(%.300s) = %.300q", fmt.Sprint(l), s)
	}
	faulty(t, err, at, api.ErrScriptPrint)
}

// plays asks that a session tells these lines.
func plays(t *testing.T, s string, want ...string) {
	t.Helper()
	lines := ""
	for _, w := range want {
		lines += w + "\n"
	}
	if told, err := script.Play(s); err != nil || told != lines {
		t.Errorf("Play(%.600q) = %.600q, %v; want %.600q", s, told, err, lines)
	}
}

// session: lines of a session behind a problem's.
func session(problem string, lines ...string) string {
	return "problem " + text(problem) + "\n" + strings.Join(lines, "\n")
}
