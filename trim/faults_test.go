package trim_test

import (
	"errors"
	"strings"
	"testing"

	"hallmark/api"
	"hallmark/check"
	"hallmark/proof"
	"hallmark/solve"
	"hallmark/text"
	"hallmark/trim"
)

// refused asks that Trim answers the checker's fault, and nothing else.
func refused(t *testing.T, m, log string) api.Fault {
	t.Helper()
	_, err := check.Check(m, log)
	var want, got *api.Fault
	if !errors.As(err, &want) {
		t.Fatalf("%q is right:\n%s", m, log)
	}
	cut, cons, err := trim.Trim(m, log)
	if !errors.As(err, &got) || *got != *want || cut != "" || len(cons) > 0 {
		t.Fatalf("P19.1: %q, %v, %v, want %v: %.200q\n%.2000q", cut, cons, err, want, m, log)
	}
	return *got
}

func TestRefused(t *testing.T) { // P19.1
	right := log(2, "UNSAT : 1")
	for _, c := range []struct {
		m, log string
		want   api.Fault
	}{
		{two, log(2, "x / UNSAT : 1"), api.Fault{In: api.InLog, Line: 3, Err: api.ErrProofWord}}, {two, log(2, "rup 1 x2 >= 1 ; / UNSAT : 1"), api.Fault{In: api.InLog, Line: 3, Err: api.ErrCheckLit}}, {two, "", api.Fault{In: api.InLog, Line: 1, Err: api.ErrCheckOrder}}, {two, log(2, "SAT"), api.Fault{In: api.InLog, Line: 4, Err: api.ErrCheckEnds}}, {two, log(3, "UNSAT : 1"), api.Fault{In: api.InLog, Line: 2, Err: api.ErrCheckCount}}, {two, log(2, "UNSAT : 3"), api.Fault{In: api.InLog, Line: 4, Err: api.ErrBaseUnknown}},
		{two, log(2, "del id 1 / UNSAT : 1"), api.Fault{In: api.InLog, Line: 3, Err: api.ErrBaseKept}}, {two, log(2, "e 1 1 x1 >= 1 ; / UNSAT : 1"), api.Fault{In: api.InLog, Line: 3, Err: api.ErrCheckSame}}, {free, log(0, "rup 1 x1 >= 1 ; / NONE"), api.Fault{In: api.InLog, Line: 3, Err: api.ErrCheckRup}}, {free, log(0, "soli / NONE"), api.Fault{In: api.InLog, Line: 3, Err: api.ErrCheckSoli}}, {two, right + "*", api.Fault{In: api.InLog, Line: 6, Err: api.ErrCheckOrder}},
		{"", right, api.Fault{In: api.InModel, Line: 1, Err: api.ErrTextEmpty}}, {"x", "", api.Fault{In: api.InModel, Line: 1, Err: api.ErrTextWord}}, {two + "lin", right, api.Fault{In: api.InModel, Line: 4, Err: api.ErrTextShort}}, {strings.Repeat(" ", api.MaxModel+1), right, api.Fault{In: api.InModel, Line: 1, Err: api.ErrTextLong}},
	} {
		if got := refused(t, c.m, c.log); got != c.want {
			t.Errorf("P19.1: %v, want %v", got, c.want)
		}
	}
	for _, log := range []string{right, strings.TrimSuffix(right, "\n"), strings.ReplaceAll(right, " ", " \t "), strings.Replace(right, "f 2\n", "f 2\n\n\t\n*\n", 1)} {
		if got := held(t, two, log, true); got.log != right {
			t.Errorf("P19.2: %q", got.log)
		}
	}
}

// TestSpoiltLogs: logs with a line gone, twice, in another place, or changed:
// refused as the checker does, or trimmed.
func TestSpoiltLogs(t *testing.T) { // P19.1 to P19.5
	s := newSource(3)
	right, wrong := 0, map[api.Errno]int{}
	for range 1500 {
		m := s.problem(3, 4, 4, s.Intn(12))
		p := written(t, m)
		_, log, err := solve.Solve(p, 1<<30, s.script())
		if s.Intn(2) == 0 {
			_, log, err = solve.All(p, 1<<30, s.script())
		}
		if err != nil {
			t.Fatalf("%q: %v", p, err)
		}
		spoilt := s.spoilt(proof.Lines(log))
		if _, err := check.Check(p, spoilt); err != nil {
			wrong[refused(t, p, spoilt).Err]++
			continue
		}
		right++
		held(t, p, spoilt, true)
	}
	if right < 100 || len(wrong) < 6 {
		t.Errorf("%d right, wrong %v: too few to tell", right, wrong)
	}
}

// spoilt: a log's lines, one of them spoilt.
func (s source) spoilt(lines []string) string {
	at, other := s.Intn(len(lines)), s.Intn(len(lines))
	switch s.Intn(6) {
	case 0:
		lines = append(lines[:at:at], lines[at+1:]...)
	case 1:
		lines = append(lines[:at+1:at+1], lines[at:]...)
	case 2:
		lines[at], lines[other] = lines[other], lines[at]
	case 3:
		const digits = "0123456789"
		from, to := digits[s.Intn(10)], digits[s.Intn(10)]
		lines[at] = strings.Replace(lines[at], string(from), string(to), 1)
	case 4:
		lines[at] += " " + []string{"1", "2", "x1", ";", "s", "*"}[s.Intn(6)]
	default:
		lines = append(lines[:at:at], append([]string{[]string{"* x", "", "rup >= 0 ;", "pol 1", "del id 9", "soli", "x"}[s.Intn(7)]}, lines[at:]...)...)
	}
	return strings.Join(lines, "\n") + "\n"
}

// TestOnAllBytes: all calls end, and none panics.
func TestOnAllBytes(t *testing.T) { // P19.1, P19.6
	s := newSource(4)
	const signs = " \n\t0123456789-<=>:;#~*xzrupolsidel\x00\xff"
	for range 3000 {
		m, log := make([]byte, s.Intn(60)), make([]byte, s.Intn(60))
		for i := range m {
			m[i] = signs[s.Intn(len(signs))]
		}
		s.Read(log)
		refused(t, string(m), string(log))
		refused(t, two, string(m))
		refused(t, two, "pseudo-Boolean proof version 2.0\nf 2\n"+string(m)+string(log))
		noCore(t, string(m))
	}
}

// noCore asks that Core answers text.Parse's fault, and nothing else.
func noCore(t *testing.T, m string) {
	t.Helper()
	_, err := text.Parse(m)
	var want, got *api.Fault
	if !errors.As(err, &want) {
		t.Fatalf("%q is a problem", m)
	}
	if list, ok, err := trim.Core(m); !errors.As(err, &got) || *got != *want || ok || len(list) > 0 {
		t.Fatalf("P19.6: %v, %v, %v, want %v: %q", list, ok, err, want, m)
	}
}
