package script

import (
	"errors"
	"slices"
	"strings"

	"hallmark/api"
	"hallmark/check"
	"hallmark/model"
	"hallmark/proof"
	"hallmark/solve"
	"hallmark/text"
	"hallmark/trim"
)

// session: what is played with. A log that was made is the proof of an answer,
// and isn't there to be spoiled.
type session struct {
	problem, log string
	made         bool
}

// solver: one of the solver's two calls.
type solver func(m string, fuel int, h []int) (api.Verdict, string, error)

const great = "great" // too many values to go through

// tells does an act, and tells its line.
func (s *session) tells(a api.Act) string {
	line, err := s.play(a)
	var f *api.Fault
	if errors.As(err, &f) {
		return told("fault", f.In, f.Line, int(f.Err))
	}
	return line
}

func (s *session) play(a api.Act) (string, error) {
	for _, f := range forms() {
		if f.kind == a.Kind {
			return f.play(s, a)
		}
	}
	return "", nil
}

func (s *session) pose(a api.Act) (string, error) {
	*s = session{problem: a.Text}
	m, err := text.Parse(s.problem)
	return told("problem", len(m.Vars), len(m.Cons)), err
}

func (s *session) give(a api.Act) (string, error) {
	s.log, s.made = a.Text, false
	return s.size(), nil
}

// size tells how many lines the log has.
func (s *session) size() string { return told("lines", len(proof.Lines(s.log))) }

func (s *session) solve(a api.Act) (string, error) { return s.answered(solve.Solve, a.List) }

func (s *session) all(a api.Act) (string, error) { return s.answered(solve.All, a.List) }

// answered has the problem answered with as much fuel as that may ask for.
func (s *session) answered(by solver, list []int) (string, error) {
	m, err := text.Parse(s.problem)
	if err != nil {
		return "", err
	}
	product, few := model.Product(m, api.MaxCount)
	if !few {
		return great, nil
	}
	v, log, err := by(s.problem, enough(m, product), list)
	if err != nil {
		return "", err
	}
	s.log, s.made = log, true
	return verdict(v), nil
}

// enough tells the fuel that is enough whatever the branching. It fits an int,
// since the product isn't above MaxCount.
func enough(m api.Model, product int) int {
	sum := 0
	for _, v := range m.Vars {
		sum += v.Hi - v.Lo + 1
	}
	return 2 * (len(m.Cons) + 2) * (1 + sum) * product
}

func (s *session) try(a api.Act) (string, error) {
	v, log, err := solve.Solve(s.problem, a.N, a.List)
	if err != nil {
		return "", err
	}
	if again, err := check.Check(s.problem, log); err != nil || !equal(again, v) {
		return verdict(v) + " unproved", nil
	}
	return verdict(v) + " proved", nil
}

func (s *session) check(api.Act) (string, error) {
	v, err := check.Check(s.problem, s.log)
	return verdict(v), err
}

func (s *session) trim(api.Act) (string, error) {
	log, _, err := trim.Trim(s.problem, s.log)
	if err != nil {
		return "", err
	}
	s.log, s.made = log, true
	return "trimmed", nil
}

func (s *session) drop(a api.Act) (string, error) { return s.replaced(a.N), nil }

func (s *session) change(a api.Act) (string, error) { return s.replaced(a.N, a.Text), nil }

// replaced puts what is handed in, a line or nothing, in a line's place. A
// text with line feeds is more than one line from then on.
func (s *session) replaced(n int, instead ...string) string {
	if s.made {
		return "made"
	}
	lines := proof.Lines(s.log)
	if n < 1 || n > len(lines) {
		return "no line"
	}
	var log strings.Builder
	for _, line := range slices.Replace(lines, n-1, n, instead...) {
		log.WriteString(line)
		log.WriteByte('\n')
	}
	s.log = log.String()
	return s.size()
}

func (s *session) show(api.Act) (string, error) {
	m, err := text.Parse(s.problem)
	if err != nil {
		return "", err
	}
	printed, _ := text.Print(m) // a session's problem is shorter than MaxModel by more than a line feed
	return "text " + quoted(printed), nil
}

func (s *session) core(api.Act) (string, error) {
	m, err := text.Parse(s.problem)
	if err != nil {
		return "", err
	}
	if _, few := model.Product(m, api.MaxCount); !few {
		return great, nil
	}
	places, ok, err := trim.Core(s.problem)
	if !ok {
		return "no core", err
	}
	return told("core", places...), nil
}

func (s *session) holds(a api.Act) (string, error) {
	m, err := text.Parse(s.problem)
	switch {
	case err != nil:
		return "", err
	case !model.Solution(m, a.List):
		return "no solution", nil
	case m.HasGoal:
		return told("solution", model.Worth(m, a.List)), nil
	}
	return "solution", nil
}
