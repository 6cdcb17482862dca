package trim_test

import (
	"strings"
	"testing"

	"hallmark/api"
	"hallmark/model"
	"hallmark/proof"
	"hallmark/solve"
)

// tally: of each kind of verdicts how many logs were trimmed, how many lines
// they had, and how many they have.
type tally struct{ logs, lines, left [api.All + 1]int }

func (n *tally) add(log string, cut trimmed) {
	kind := cut.verdict.Kind
	n.logs[kind]++
	n.lines[kind] += len(proof.Lines(log))
	n.left[kind] += len(proof.Lines(cut.log))
}

// ask asks that each kind came often, and that much was thrown away.
func (n *tally) ask(t *testing.T, often int) {
	t.Helper()
	for kind := api.None; kind <= api.All; kind++ {
		t.Logf("kind %d: %d logs, %d lines, %d left", kind, n.logs[kind], n.lines[kind], n.left[kind])
		if n.logs[kind] < often || n.left[kind]*10 > n.lines[kind]*9 {
			t.Errorf("kind %d: %d logs, %d lines, %d left", kind, n.logs[kind], n.lines[kind], n.left[kind])
		}
	}
}

// TestSolversLogs: what the solver writes, with all its fuel or with less.
func TestSolversLogs(t *testing.T) { // P19.2 to P19.5, P22.6
	s := newSource(1)
	var n tally
	for range 1200 {
		m := s.problem(4, 5, 6, s.Intn(12))
		p := written(t, m)
		for _, do := range []func(string, int, []int) (api.Verdict, string, error){solve.Solve, solve.All} {
			_, log, err := do(p, []int{1 << 30, s.Intn(60)}[s.Intn(2)], s.script())
			if err != nil {
				t.Fatalf("%q: %v", p, err)
			}
			n.add(log, held(t, p, log, true))
		}
	}
	n.ask(t, 20)
}

// TestLongwindedLogs: logs of which much isn't needed.
func TestLongwindedLogs(t *testing.T) { // P19.2 to P19.5, P22.6
	s := newSource(2)
	var n tally
	kinds := map[string]int{}
	for range 1500 {
		m := s.problem(3, 4, 4, s.Intn(12))
		if p, _ := model.Product(m, 1000); p > 40 {
			continue
		}
		log := s.scribe(t, m, s.Intn(3) == 0).log()
		n.add(log, held(t, written(t, m), log, true))
		for _, line := range proof.Lines(log) {
			step, _ := proof.Parse(line)
			if kinds[word(line)]++; step.Kind == api.StepRup && len(step.Ids) > 0 {
				kinds["hints"]++
			}
		}
	}
	n.ask(t, 40)
	for _, kind := range []string{"pol", "rup", "soli", "solx", "e", "del", "*", "", "hints"} {
		if kinds[kind] < 200 {
			t.Errorf("%q: only %d times", kind, kinds[kind])
		}
	}
}

// word: the first one of a line.
func word(line string) string {
	if f := strings.Fields(line); len(f) > 0 {
		return f[0]
	}
	return ""
}
