package check_test

import (
	"fmt"
	"reflect"
	"strings"
	"testing"

	"hallmark/api"
	"hallmark/check"
	"hallmark/encode"
	problem "hallmark/text"
)

// The problems of the chapter's examples.
const (
	none = "var x 0 1\nlin >= 2 1 x\n"
	free = "var x 0 1\n"
	goal = "var x 0 1\nminimize 1 x\n"
)

const (
	head = "pseudo-Boolean proof version 2.0"
	last = "end pseudo-Boolean proof"
)

// log lays lines between the first one and the last one.
func log(lines ...string) string {
	return text(append(append([]string{head}, lines...), last))
}

func text(lines []string) string { return strings.Join(lines, "\n") + "\n" }

// lines: those of a list with slashes between two.
func lines(list string) []string { return strings.Split(list, " / ") }

// says tells what Check answers, such as "Best 3 [1 2]", or "103 at 7" of a
// fault in the log, "52 at 1 of the problem" of another one.
func says(t *testing.T, m, log string) string {
	t.Helper()
	v, err := check.Check(m, log)
	if err == nil {
		return verdict(t, v)
	}
	f, ok := err.(*api.Fault)
	if !ok || !reflect.DeepEqual(v, api.Verdict{}) {
		t.Errorf("Check(%q, %.300q): %+v, %#v", m, log, v, err)
		return ""
	}
	return fault(f)
}

func fault(f *api.Fault) string {
	switch f.In {
	case api.InModel:
		return fmt.Sprintf("%d at %d of the problem", int(f.Err), f.Line)
	case api.InLog:
		return fmt.Sprintf("%d at %d", int(f.Err), f.Line)
	}
	return fmt.Sprintf("%#v", f)
}

// verdict writes one; a field that its kind hasn't must be zero.
func verdict(t *testing.T, v api.Verdict) string {
	t.Helper()
	var s string
	rest := v
	rest.Kind = 0
	switch v.Kind {
	case api.None:
		s = "None"
	case api.Unsat:
		s = "Unsat"
	case api.Sat:
		s = fmt.Sprint("Sat ", v.Values)
		rest.Values = nil
	case api.Best:
		s = fmt.Sprint("Best ", v.Worth, " ", v.Values)
		rest.Values, rest.Worth = nil, 0
	case api.Bounds:
		s = fmt.Sprint("Bounds ", v.Low, " ", v.Worth, " ", v.Values)
		rest.Values, rest.Worth, rest.Low = nil, 0, 0
	case api.All:
		s = fmt.Sprint("All ", v.Count)
		rest.Count = 0
	}
	if len(rest.Values) == 0 {
		rest.Values = nil
	}
	if s == "" || !reflect.DeepEqual(rest, api.Verdict{}) {
		t.Errorf("no verdict: %+v", v)
	}
	return s
}

// expect: of each case a problem, the lines between a log's first one and its
// last one, and what Check answers.
type expect struct{ m, lines, want string }

func (c expect) ask(t *testing.T, promise string) {
	t.Helper()
	if got := says(t, c.m, log(lines(c.lines)...)); got != c.want {
		t.Errorf("%s: %.200q, %.200q: %s, want %s", promise, c.m, c.lines, got, c.want)
	}
}

// askSteps asks whether steps are taken: "None", as nothing is claimed, or the
// fault; the first of them is line 3.
func (c expect) askSteps(t *testing.T, promise string) {
	t.Helper()
	list := append([]string{"f " + fmt.Sprint(len(rows(t, c.m)))}, lines(c.lines)...)
	if got := says(t, c.m, log(append(list, "output NONE", "conclusion NONE")...)); got != c.want {
		t.Errorf("%s: %.200q, %.200q: %s, want %s", promise, c.m, c.lines, got, c.want)
	}
}

func parsed(t *testing.T, m string) api.Model {
	t.Helper()
	p, err := problem.Parse(m)
	if err != nil {
		t.Fatalf("%q: %v", m, err)
	}
	return p
}

// rows: the problem's.
func rows(t *testing.T, m string) []api.Row {
	t.Helper()
	all, e := encode.Rows(parsed(t, m))
	if e != api.OK {
		t.Fatalf("%q: %d", m, e)
	}
	return all
}
