package script_test

import (
	"fmt"
	"slices"
	"strings"
	"testing"

	"hallmark/api"
	"hallmark/check"
	"hallmark/model"
	"hallmark/proof"
	"hallmark/script"
	"hallmark/solve"
	problems "hallmark/text"
	"hallmark/trim"
)

// player: P20.7 by itself; plenty of fuel stands in for as much as is needed.
type player struct {
	problem, log string
	made         bool
}

const plenty = 1 << 40

// say: words with single blanks, whatever they are made of.
func say(words ...any) string {
	return strings.Join(strings.Fields(strings.NewReplacer("[", "", "]", "").Replace(fmt.Sprintln(words...))), " ")
}

func sayFault(err error) string {
	f := err.(*api.Fault)
	return say("fault", f.In, f.Line, int(f.Err))
}

func sayVerdict(v api.Verdict) string {
	return map[int]string{
		api.None: "none", api.Unsat: "unsat", api.Sat: say("sat", v.Values), api.Best: say("best", v.Worth, v.Values), api.Bounds: say("bounds", v.Low, v.Worth, v.Values), api.All: say("all", v.Count),
	}[v.Kind]
}

// line does an act, and tells its line.
func (p *player) line(a api.Act) string {
	if a.Kind == api.ActProblem {
		p.problem, p.log, p.made = a.Text, "", false
	}
	m, err := problems.Parse(p.problem)
	if slices.Contains([]int{api.ActLog, api.ActDrop, api.ActChange}, a.Kind) {
		return p.given(a)
	}
	if err != nil {
		return sayFault(err)
	}
	size := 1
	for _, v := range m.Vars {
		size = min(size*(v.Hi-v.Lo+1), 1<<32)
	}
	great := size > 100000
	switch a.Kind {
	case api.ActProblem:
		return say("problem", len(m.Vars), len(m.Cons))
	case api.ActShow:
		s, _ := problems.Print(m)
		return "text " + text(s)
	case api.ActHolds:
		return p.holds(m, a.List)
	case api.ActCheck:
		v, err := check.Check(p.problem, p.log)
		if err != nil {
			return sayFault(err)
		}
		return sayVerdict(v)
	case api.ActTrim:
		log, _, err := trim.Trim(p.problem, p.log)
		if err != nil {
			return sayFault(err)
		}
		p.log, p.made = log, true
		return "trimmed"
	case api.ActTry:
		v, _, _ := solve.Solve(p.problem, a.N, a.List)
		return sayVerdict(v) + " proved"
	}
	if great {
		return "great"
	}
	v := api.Verdict{}
	switch a.Kind {
	case api.ActCore:
		places, ok, _ := trim.Core(p.problem)
		if !ok {
			return "no core"
		}
		return say("core", places)
	case api.ActSolve:
		v, p.log, _ = solve.Solve(p.problem, plenty, a.List)
	case api.ActAll:
		v, p.log, _ = solve.All(p.problem, plenty, a.List)
	}
	p.made = true
	return sayVerdict(v)
}

func (p *player) holds(m api.Model, values []int) string {
	if !model.Solution(m, values) {
		return "no solution"
	}
	if !m.HasGoal {
		return "solution"
	}
	return say("solution", model.Worth(m, values))
}

// given does the acts that a problem isn't asked for.
func (p *player) given(a api.Act) string {
	if a.Kind == api.ActLog {
		p.log, p.made = a.Text, false
		return say("lines", len(proof.Lines(p.log)))
	}
	if p.made {
		return "made"
	}
	lines := proof.Lines(p.log)
	if a.N < 1 || a.N > len(lines) {
		return "no line"
	}
	out := ""
	for i, line := range lines {
		if i+1 != a.N {
			out += line + "\n"
		} else if a.Kind == api.ActChange {
			out += a.Text + "\n"
		}
	}
	p.log = out
	return say("lines", strings.Count(out, "\n"))
}

func TestPlayByAPlayer(t *testing.T) { // P20.6, P20.7
	s := newSource(22)
	seen := map[string]int{}
	for range 1500 {
		acts := s.session()
		p := &player{}
		var want []string
		for _, a := range acts {
			want = append(want, p.line(a))
			seen[strings.Fields(want[len(want)-1])[0]]++
		}
		plays(t, written(acts...), want...)
		if t.Failed() {
			t.FailNow()
		}
	}
	for _, w := range strings.Fields("fault problem lines none unsat sat best bounds all core no made trimmed text solution") {
		if seen[w] < 20 {
			t.Errorf("%s: %d, too few to tell", w, seen[w])
		}
	}
}

func TestPlayTellsTheTruth(t *testing.T) { // P20.7: against counting
	s := newSource(23)
	seen := map[string]int{}
	for range 400 {
		problem := s.problem()
		m, err := problems.Parse(problem)
		if err != nil {
			continue
		}
		n, least := count(m)
		told, err := script.Play(session(problem, say("solve", some(3, s.whole)), say("all", some(3, s.whole)), "core"))
		lines := strings.Split(told, "\n")
		if err != nil || len(lines) != 5 {
			t.Fatalf("%q: %q, %v", problem, told, err)
		}
		solved := strings.Fields(lines[1])
		seen[solved[0]]++
		want := "sat"
		switch {
		case n == 0:
			want = "unsat"
		case m.HasGoal:
			want = say("best", least)
		}
		if !strings.HasPrefix(lines[1]+" ", want+" ") || lines[2] != say("all", n) || (lines[3] == "no core") != (n > 0) {
			t.Fatalf("%q: %q; %d solutions, the least one's worth is %d", problem, told, n, least)
		}
		if n > 0 {
			values := strings.TrimPrefix(lines[1], want)
			if held, _ := script.Play(session(problem, "holds"+values)); !strings.HasSuffix(held, strings.Replace(strings.Replace("\n"+want+"\n", "best", "solution", 1), "sat", "solution", 1)) {
				t.Fatalf("%q: %q, but %q", problem, told, held)
			}
		}
	}
	for _, w := range []string{"unsat", "sat", "best"} {
		if seen[w] < 20 {
			t.Errorf("%v: too few to tell", seen)
		}
	}
}
