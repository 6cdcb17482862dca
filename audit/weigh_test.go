package audit_test

import (
	"errors"
	"strings"
	"testing"

	"hallmark/api"
	"hallmark/audit"
)

func TestWeighNothing(t *testing.T) { // P21.4
	weighs(t, "", api.Weight{})
	weighs(t, "\n", api.Weight{Lines: 1, Bytes: 1, Kinds: [13]int{api.StepNote: 1}})
	weighs(t, "\n\n", api.Weight{Lines: 2, Bytes: 2, Kinds: [13]int{api.StepNote: 2}})
	weighs(t, " ", api.Weight{Lines: 1, Bytes: 1, Longest: 1, Kinds: [13]int{api.StepNote: 1}})
}

func TestWeighEachKind(t *testing.T) { // P21.4
	lines, sum := []string{}, api.Weight{}
	for _, k := range known() {
		adds := map[int]int{api.StepPol: 1, api.StepRup: 1, api.StepSolx: 1}[k.kind]
		want := api.Weight{Lines: 1, Bytes: len(k.line), Rows: adds, Gone: k.gone, Peak: adds, Longest: len(k.line)}
		want.Kinds[k.kind] = 1
		if k.line != "" {
			weighs(t, k.line, want)
		}
		want.Bytes++
		weighs(t, k.line+"\n", want)
		lines = append(lines, k.line)
		sum.Lines, sum.Bytes, sum.Rows, sum.Gone = sum.Lines+1, sum.Bytes+want.Bytes, sum.Rows+adds, sum.Gone+k.gone
		sum.Longest = max(sum.Longest, len(k.line))
		sum.Kinds[k.kind]++
	}
	sum.Peak = 4 // two of pol and two of rup stand ahead of the first del
	weighs(t, joined(lines...), sum)
}

func TestPeak(t *testing.T) { // P21.4
	for _, c := range []struct {
		log  string
		peak int
	}{
		{"pol 1", 1},
		{"pol 1\ndel id 3\npol 1", 1},
		{"pol 1\nrup >= 0 ;\ndel id 3 4\npol 1\n", 2},
		{"pol 1\ndel id 3\npol 1\nsolx\nrup >= 0 ;\ndel id 4", 3},
		{"del id 3", 0},
		{"del id 3 4\npol 1\n", 0}, // below 0 behind each line
		{"del id 3 4\npol 1\npol 1", 0},
		{"del id 3 4\npol 1\npol 1\npol 1", 1},
		{"pol 1\ndel id 3 4 5\npol 1\npol 1", 1}, // more went than came
		{"soli x1\nsoli x1\ne 3 >= 0 ;\n*\n", 0}, // what adds a row only of some problems doesn't count
		{"solx x1\nsolx x2\ndel id 1 1 1", 2},    // an id as often as it is named
	} {
		if w, err := audit.Weigh(c.log); err != nil || w.Peak != c.peak {
			t.Errorf("P21.4: Weigh(%q): %d, %v; want %d", c.log, w.Peak, err, c.peak)
		}
	}
}

func TestLongest(t *testing.T) { // P21.4: bytes, without the line feed
	for log, want := range map[string]int{
		"*\n* ab\n*\n": 4, "* abc\n*": 5, "*\n* abcd": 6, "  *\t \n": 5, "* é": 4, "* \xff\x00\r\n*": 5, "\n*": 1,
		"* " + strings.Repeat("a", 1<<17) + "\n*": 1<<17 + 2,
	} {
		if w, err := audit.Weigh(log); err != nil || w.Longest != want || w.Bytes != len(log) {
			t.Errorf("P21.4: Weigh(%.30q): %d of %d, %v; want %d", log, w.Longest, w.Bytes, err, want)
		}
	}
}

func TestOrderIsNotAsked(t *testing.T) { // P21.4: what a step means isn't asked
	weighs(t, "end pseudo-Boolean proof\nf 7\nf 8\npol 99\npol 1 1\ndel id 1", api.Weight{
		Lines: 6, Bytes: 56, Rows: 2, Gone: 1, Peak: 2, Longest: 24,
		Kinds: [13]int{api.StepLast: 1, api.StepCount: 2, api.StepPol: 2, api.StepDel: 1},
	})
}

func TestFaults(t *testing.T) { // P21.4: the first line that is no step's
	for line, e := range wrong() {
		fails(t, line, 1, e)
		fails(t, line+"\n", 1, e)
		fails(t, joined("pol 1", "", line, "del id 3"), 3, e)
		for other := range wrong() {
			fails(t, joined("", line, other), 2, e)
		}
		_, err := audit.Weigh(joined("*", line))
		var f *api.Fault
		if !errors.As(err, &f) || !errors.Is(err, e) {
			t.Errorf("P21.4: %q: %v", line, err)
		}
	}
	fails(t, strings.Repeat("\n", 9999)+"e", 10000, api.ErrProofEnd)
	fails(t, "f 3\r\n*\r\n", 1, api.ErrProofNumber)
	weighs(t, "* a\r\n", api.Weight{Lines: 1, Bytes: 5, Longest: 4, Kinds: [13]int{api.StepNote: 1}})
}

func TestFaultsAreNewMemory(t *testing.T) { // rule 3
	_, a := audit.Weigh("x")
	_, b := audit.Weigh("x")
	a.(*api.Fault).Line = 9
	if b.(*api.Fault).Line != 1 {
		t.Error("two faults are one")
	}
	fails(t, "x", 1, api.ErrProofWord)
}

// bytes: any bytes, words of logs above all.
func (s source) bytes() string {
	return strings.Join(some(s.Intn(30), func() string {
		return one(s, "\n", "\n", " ", "pol", " 1 ", "x1", "del id", "rup", ">=", ";", "*", "soli", "solx", "f 3", "\t", "\x00", "\xff", "\r", "output NONE", "e 3")
	}), "")
}

func TestWeighByChance(t *testing.T) { // P21.4
	s := newSource(2)
	faults, fine := 0, 0
	for i := range 6000 {
		log := joined(some(s.Intn(20), s.line)...)
		switch {
		case i%3 == 0:
			log = s.bytes()
		case i%3 == 1:
			log = strings.TrimSuffix(log, "\n")
		}
		want, fault := weighed(log)
		if fault.Err != api.OK {
			faults++
			fails(t, log, fault.Line, fault.Err)
		} else {
			fine++
			weighs(t, log, want)
		}
		if t.Failed() {
			return
		}
	}
	if min(faults, fine) < 1000 {
		t.Errorf("%d with a fault, %d without: too few to tell", faults, fine)
	}
}
