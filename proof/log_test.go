package proof_test

import (
	"errors"
	"slices"
	"strings"
	"testing"

	"hallmark/api"
	"hallmark/proof"
)

func TestLines(t *testing.T) { // P8.1
	for _, c := range []struct {
		log  string
		want []string
	}{
		{"", nil}, {"a", []string{"a"}}, {"a\n", []string{"a"}}, {"\n", []string{""}}, {"\n\n", []string{"", ""}}, {"a\n\n", []string{"a", ""}}, {"\na", []string{"", "a"}}, {"a\nb", []string{"a", "b"}}, {"a\nb\n", []string{"a", "b"}},
		{" \n\t", []string{" ", "\t"}}, {"a\r\nb\r\n", []string{"a\r", "b\r"}}, {"a\rb\vc\fd\u2028e\u0085f", []string{"a\rb\vc\fd\u2028e\u0085f"}}, {"\xff\x00\n\xff", []string{"\xff\x00", "\xff"}},
	} {
		if got := proof.Lines(c.log); !slices.Equal(got, c.want) {
			t.Errorf("Lines(%q) = %q, want %q", c.log, got, c.want)
		}
	}
	s := newSource()
	for range 2000 {
		log := ""
		for range s.Intn(12) {
			log += []string{"a", "\n", " ", "\r", "*", "\n\n", "f 3\n", "\xff"}[s.Intn(8)]
		}
		lines := proof.Lines(log)
		joined := strings.Join(lines, "\n")
		if log != joined && log != joined+"\n" || len(lines) != strings.Count(log, "\n")+map[bool]int{true: 1}[log != "" && !strings.HasSuffix(log, "\n")] {
			t.Fatalf("Lines(%q) = %q", log, lines)
		}
	}
}

// readsLog asks that a log has just these steps.
func readsLog(t *testing.T, log string, want []api.Step) {
	t.Helper()
	l, err := proof.Read(log)
	if err != nil || !slices.EqualFunc(l, want, alike) {
		t.Fatalf("Read(%q) = %+v, %v; want %+v", log, l, err, want)
	}
}

func failsLog(t *testing.T, log string, line int, e api.Errno) {
	t.Helper()
	l, err := proof.Read(log)
	var f *api.Fault
	if len(l) != 0 || !errors.As(err, &f) || *f != (api.Fault{In: api.InLog, Line: line, Err: e}) || err != error(f) {
		t.Fatalf("Read(%q) = %+v, %v; want %d on line %d", log, l, err, e, line)
	}
}

func TestRead(t *testing.T) { // P8.6
	readsLog(t, "", nil)
	readsLog(t, "\n", []api.Step{{Kind: api.StepNote}})
	readsLog(t, "f 3", []api.Step{{Kind: api.StepCount, N: "3"}})
	readsLog(t, "f 3\n", []api.Step{{Kind: api.StepCount, N: "3"}})
	readsLog(t, "end pseudo-Boolean proof\n\n  soli  x1\nf 3", []api.Step{{Kind: api.StepLast}, {Kind: api.StepNote}, {Kind: api.StepSoli, Lits: []int{1}}, {Kind: api.StepCount, N: "3"}})
	failsLog(t, "x", 1, aWord)
	failsLog(t, "\nx", 2, aWord)
	failsLog(t, "f 3\n*\npol\nx", 3, api.ErrProofEnd)
	failsLog(t, "f 3\nf x\npol", 2, aNumber)
	failsLog(t, "f 3\r\n", 1, aNumber)
	failsLog(t, strings.Repeat("\n", 9999)+"e", 10000, api.ErrProofEnd)
}

func TestWrite(t *testing.T) { // P8.6
	note := api.Step{Kind: api.StepNote}
	for _, c := range []struct {
		l    []api.Step
		want string
		line int
	}{
		{nil, "", 0}, {[]api.Step{}, "", 0}, {[]api.Step{note}, "*\n", 0}, {[]api.Step{{Kind: api.StepCount, N: "3"}, note, {Kind: api.StepSoli, Lits: []int{1}}}, "f 3\n*\nsoli x1\n", 0},
		{[]api.Step{{}}, "", 1}, {[]api.Step{note, {}}, "", 2}, {[]api.Step{note, {Kind: api.StepPol}, {}}, "", 2}, {[]api.Step{note, note, {Kind: api.StepCount, N: "x"}, note}, "", 3},
	} {
		log, err := proof.Write(c.l)
		if c.line == 0 {
			if log != c.want || err != nil {
				t.Errorf("Write(%+v) = %q, %v", c.l, log, err)
			}
			continue
		}
		var f *api.Fault
		if log != "" || !errors.As(err, &f) || *f != (api.Fault{In: api.InLog, Line: c.line, Err: api.ErrProofStep}) || err != error(f) {
			t.Errorf("Write(%+v) = %q, %v; want step %d", c.l, log, err, c.line)
		}
	}
}
