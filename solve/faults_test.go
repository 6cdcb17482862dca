package solve_test

import (
	"errors"
	"math"
	"slices"
	"strings"
	"testing"

	"hallmark/api"
	"hallmark/check"
	"hallmark/text"
)

// refusedAlike asks that Solve, All and Check tell text.Parse's fault.
func refusedAlike(t *testing.T, m string) {
	t.Helper()
	_, err := text.Parse(m)
	var want, got *api.Fault
	if !errors.As(err, &want) {
		t.Fatalf("%q is a problem", m)
	}
	for _, w := range ways() {
		for _, fuel := range []int{-1, 0, 100} {
			v, log, err := w.do(m, fuel, []int{1, 2})
			if !errors.As(err, &got) || *got != *want || log != "" || v.Kind != 0 || v.Values != nil || v.Low != 0 || v.Worth != 0 || v.Count != 0 {
				t.Errorf("P18.1: %s of %.60q: %+v, %q, %v, want %v", w.name, m, v, log, err, want)
			}
		}
	}
	if v, err := check.Check(m, "x"); !errors.As(err, &got) || *got != *want || v.Kind != 0 {
		t.Errorf("P22.8: Check of %.60q: %+v, %v, want %v", m, v, err, want)
	}
}

func TestNoProblems(t *testing.T) { // P18.1, P22.8
	for _, m := range []string{
		"", "\n", "\n\n\n", "x", "#", "var", "var x", "var x 0", "var x 0 64", "var x 3 2", "var x 0 3\nvar x 0 1\n", "var x 0 1\nlin < 3 1 x\n", "var x 0 1\nlin <= 03 1 x\n", "var x 0 1\nlin <= 3 0 x\n", "var x 0 1\nne x y 0\n", "var x 0 1\nne x x 0 0\n", "var x 0 1\nminimize 1 x\nminimize 1 x\n",
		"var x 0 1\ntable x : 1 2\n", "var 9 0 1\n", "var x 0 1000000001\n", "var x 0 3\r\n", "var x 0 3\x00", "\xff\xfe", strings.Repeat("#", api.MaxModel+1), "var x 0 1\nalldiff" + strings.Repeat(" x", api.MaxTerms+1), strings.Repeat("var x 0 1\n", 40), "var x 0 1\n" + strings.Repeat("ne x x 1\n", api.MaxCons+1),
	} {
		refusedAlike(t, m)
	}
	if _, log, err := ways()[0].do("var x 0 1\n"+strings.Repeat("#", api.MaxModel-10), 9, nil); err != nil || log == "" {
		t.Errorf("P18.1: a text of MaxModel bytes: %v", err)
	}
	var f *api.Fault
	if _, _, err := ways()[1].do("var x 0 1\nlin < 3 1 x\n", 100, nil); !errors.As(err, &f) || *f != (api.Fault{In: api.InModel, Line: 2, Err: api.ErrTextWord}) {
		t.Errorf("P18.1: %v", err)
	}
}

// TestOnAllBytes: bytes by chance, and problems with some of them changed: all
// calls end, none panics, and what is a problem is proved.
func TestOnAllBytes(t *testing.T) { // P22.9, P18.1, P22.8
	const signs = " \n\t0123456789-<=>:#xzlin\x00\xff"
	s := newSource(11)
	right, wrong := 0, 0
	for range 5000 {
		b := []byte(written(t, s.problem(3, 4, 4)))
		switch s.Intn(4) {
		case 0:
			b[s.Intn(len(b))] = signs[s.Intn(len(signs))]
		case 1:
			for i, digit := range b {
				if digit >= '0' && digit <= '9' && s.Intn(9) == 0 {
					b[i] = '0' + byte(s.Intn(10))
				}
			}
		case 2:
			at := s.Intn(len(b))
			b = slices.Delete(b, at, min(at+1+s.Intn(4), len(b)))
		default:
			b = make([]byte, s.Intn(60))
			s.Read(b)
		}
		m := string(b)
		if p, err := text.Parse(m); err != nil {
			wrong++
			refusedAlike(t, m)
		} else if _, _, product := sizes(p); product.IsInt64() && product.Int64() < 1000 {
			right++
			for _, w := range ways() {
				w.proved(t, m, []int{s.Intn(200), math.MaxInt, math.MinInt}[s.Intn(3)], s.script())
			}
		}
		noise := make([]byte, s.Intn(60))
		s.Read(noise)
		check.Check(m, string(noise))
	}
	if min(right, wrong) < 500 {
		t.Errorf("%d right, %d wrong: too few to tell", right, wrong)
	}
}

// TestSpoiltLogs: the checker tells the line that was spoilt, or that is missing.
func TestSpoiltLogs(t *testing.T) { // P22.8
	const m = "var a 1 4\nvar b 1 4\nvar c 1 4\nvar d 1 4\nalldiff a b c d\nlin <= 4 1 a 1 b\nne c d 1\nminimize 3 a -2 b 1 c\n"
	for _, w := range ways() {
		_, log := w.proved(t, m, 10000, []int{2, 7, 1, 8})
		lines := strings.SplitAfter(log, "\n")
		lines = lines[:len(lines)-1]
		for i := range lines {
			for _, c := range []struct {
				line string
				want api.Errno
			}{{"x\n", api.ErrProofWord}, {"pol\n", api.ErrProofEnd}, {"rup 1 x999 >= 1 ;\n", api.ErrCheckLit}, {"del id 999999\n", api.ErrBaseUnknown}, {"", api.ErrCheckOrder}} {
				spoilt := strings.Join(lines[:i], "") + c.line
				if c.line != "" {
					spoilt += strings.Join(lines[i+1:], "")
				}
				want := c.want
				if want != api.ErrProofWord && want != api.ErrProofEnd && (i < 2 || i > len(lines)-3) {
					want = api.ErrCheckOrder
				}
				var f *api.Fault
				if v, err := check.Check(m, spoilt); !errors.As(err, &f) || *f != (api.Fault{In: api.InLog, Line: i + 1, Err: want}) || v.Kind != 0 {
					t.Errorf("P22.8: %s, line %d is %q: %+v, %v, want %v", w.name, i+1, c.line, v, err, want)
				}
			}
		}
	}
}
