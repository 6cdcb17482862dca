package script_test

import (
	"fmt"
	"strings"

	"hallmark/api"
	"hallmark/model"
	"hallmark/proof"
	"hallmark/solve"
)

// problem: a text with a line of each of some kinds; seldom one that isn't right.
func (s source) problem() string {
	names := strings.Fields("a b c d")[:1+s.Intn(4)]
	name := func() string { return one(s, names...) }
	list := func(least int) string { return strings.Join(some(least+s.Intn(3), name), " ") }
	number := func() string { return fmt.Sprint(s.Intn(9) - 3) }
	row := func(n int) string { return strings.Join(some(n, number), " ") }
	sum := func() string {
		return strings.Join(some(1+s.Intn(3), func() string { return fmt.Sprint(one(s, -2, -1, 1, 1, 3), " ", name()) }), " ")
	}
	op := func() string { return one(s, "<=", "=", ">=") }
	out := ""
	for _, n := range names {
		lo := s.Intn(4) - 1
		out += fmt.Sprint("var ", n, " ", lo, " ", lo+s.Intn(4), "\n")
	}
	for range s.Intn(4) {
		columns := 1 + s.Intn(2)
		out += one(s,
			"lin "+op()+" "+number()+" "+sum(), "ne "+name()+" "+name()+" "+number(), "alldiff "+list(1), "element "+name()+" "+name()+" "+row(3), "max "+name()+" "+list(1), "min "+name()+" "+list(1),
			"reif "+name()+" <= "+number()+" "+sum(), "table "+strings.Join(some(columns, name), " ")+" : "+row(columns)+" : "+row(columns)+" : "+row(columns), "count "+op()+" 1 "+number()+" "+list(1)) + "\n"
	}
	if s.Intn(2) == 0 {
		out += "minimize " + sum() + "\n"
	}
	if s.Intn(12) == 0 {
		at := s.Intn(len(out))
		out = out[:at] + one(s, "", " ", "\n", "x", "7", "\xff") + out[at+1:]
	}
	return out
}

// log: one that the solver makes of a problem, perhaps spoiled; it is one that fits into a session.
func (s source) log(problem string) string {
	by := solve.Solve
	if s.Intn(3) == 0 {
		by = solve.All
	}
	_, log, _ := by(problem, s.Intn(60), some(s.Intn(3), s.whole))
	if len(log) > 4000 || s.Intn(12) == 0 {
		log = one(s, "", "x", "\n", "pseudo-Boolean proof version 2.0\n")
	}
	if at := s.Intn(len(log) + 1); at > 0 && s.Intn(4) == 0 {
		log = log[:at-1] + one(s, "", "\n", "1", "*", "x") + log[at:]
	}
	return log
}

// session: acts that have to do with each other.
func (s source) session() []api.Act {
	problem := s.problem()
	all := []api.Act{{Kind: api.ActProblem, Text: problem}}
	if s.Intn(12) == 0 {
		problem, all = "", nil
	}
	lines := 0
	for range 2 + s.Intn(10) {
		a := s.act()
		switch a.Kind {
		case api.ActProblem:
			if s.Intn(3) == 0 {
				problem = s.problem()
			}
			a.Text = problem
		case api.ActLog:
			a.Text = s.log(problem)
			lines = len(proof.Lines(a.Text))
		case api.ActTry:
			a.N = one(s, -1, 0, 4+s.Intn(9), 4+s.Intn(9), s.Intn(50), 10000)
		case api.ActDrop, api.ActChange:
			a.N = s.Intn(lines + 2)
			a.Text = map[bool]string{true: one(s, "", "* x", "*\n*", "\n", "f 3", "output NONE", "x")}[a.Kind == api.ActChange]
		case api.ActHolds:
			vars := strings.Count(problem, "var ")
			a.List = some(one(s, vars, vars, vars, vars+1, max(0, vars-1)), func() int { return s.Intn(5) - 1 })
		}
		all = append(all, a)
	}
	return all
}

// count tells, by going through all values, how many solutions a problem
// has, and the least worth of one.
func count(m api.Model) (int, int) {
	n, least := 0, 0
	values := make([]int, len(m.Vars))
	var from func(x int)
	from = func(x int) {
		if x < len(values) {
			for v := m.Vars[x].Lo; v <= m.Vars[x].Hi; v++ {
				values[x] = v
				from(x + 1)
			}
			return
		}
		if model.Solution(m, values) {
			if w := model.Worth(m, values); n == 0 || w < least {
				least = w
			}
			n++
		}
	}
	from(0)
	return n, least
}
