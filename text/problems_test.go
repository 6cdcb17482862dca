package text_test

import (
	"errors"
	"fmt"
	"math/rand"
	"strconv"
	"strings"
	"testing"

	"hallmark/api"
	"hallmark/model"
	"hallmark/text"
)

// two: the variables of the chapter's examples.
func two(cons ...api.Con) api.Model {
	return api.Model{Vars: []api.Var{{Name: "x", Lo: 0, Hi: 3}, {Name: "y", Lo: -1, Hi: 2}}, Cons: cons}
}

// says asks that a text says a problem.
func says(t *testing.T, s string, want api.Model) {
	t.Helper()
	if m, err := text.Parse(s); err != nil || !model.Same(m, want) {
		t.Errorf("Parse(%.300q) = %+v, %v; want %+v", s, m, err, want)
	}
}

// fails asks that a text has a fault, and that nothing is told beside it.
func fails(t *testing.T, s string, line int, e api.Errno) {
	t.Helper()
	m, err := text.Parse(s)
	if f, ok := err.(*api.Fault); !ok || *f != (api.Fault{In: api.InModel, Line: line, Err: e}) || !errors.Is(err, e) {
		t.Errorf("Parse(%.300q): %v, want %d on line %d", s, err, e, line)
	}
	if !model.Same(m, api.Model{}) {
		t.Errorf("Parse(%.300q): %+v beside a fault", s, m)
	}
}

// faultOf tells a text's fault; the zero one: none.
func faultOf(s string) api.Fault {
	_, err := text.Parse(s)
	var f *api.Fault
	if errors.As(err, &f) {
		return *f
	}
	return api.Fault{}
}

// written goes by the table of P5.1: the lines of a right problem, as words.
func written(m api.Model) [][]string {
	var lines [][]string
	line := func(words ...any) {
		lines = append(lines, strings.Fields(fmt.Sprintln(words...)))
	}
	name := func(x int) string { return m.Vars[x].Name }
	names := func(xs []int) string {
		s := ""
		for _, x := range xs {
			s += name(x) + " "
		}
		return s
	}
	numbers := func(list []int) string { return strings.Trim(fmt.Sprint(list), "[]") }
	sum := func(terms []api.Term) string {
		s := ""
		for _, t := range terms {
			s += fmt.Sprint(t.C, " ", name(t.X), " ")
		}
		return s
	}
	op := func(c api.Con) string { return strings.Fields("? <= = >=")[c.Op] }
	for _, v := range m.Vars {
		line("var", v.Name, v.Lo, v.Hi)
	}
	for _, c := range m.Cons {
		switch c.Kind {
		case api.Lin:
			line("lin", op(c), c.K, sum(c.Terms))
		case api.Ne:
			line("ne", name(c.X), name(c.Y), c.K)
		case api.AllDiff:
			line("alldiff", names(c.Xs))
		case api.Element:
			line("element", name(c.X), name(c.Y), numbers(c.Table))
		case api.Max:
			line("max", name(c.Y), names(c.Xs))
		case api.Min:
			line("min", name(c.Y), names(c.Xs))
		case api.Reif:
			line("reif", name(c.X), "<=", c.K, sum(c.Terms))
		case api.Table:
			rows := ""
			for _, row := range c.Rows {
				rows += ": " + numbers(row) + " "
			}
			line("table", names(c.Xs), rows)
		case api.Count:
			line("count", op(c), c.K, c.V, names(c.Xs))
		}
	}
	if m.HasGoal {
		line("minimize", sum(m.Goal))
	}
	return lines
}

// joined: words with one blank between two, lines with a line feed behind each.
func joined(lines [][]string) string {
	var s strings.Builder
	for _, words := range lines {
		s.WriteString(strings.Join(words, " ") + "\n")
	}
	return s.String()
}

// source makes right problems of all sizes.
type source struct{ *rand.Rand }

func newSource() source { return source{rand.New(rand.NewSource(51))} }

func (s source) one(list ...int) int { return list[s.Intn(len(list))] }

// few: how many there may be, mostly few, the most now and then.
func (s source) few(most int) int {
	if s.Intn(8) == 0 {
		return most - s.Intn(2)
	}
	return 1 + s.Intn(min(5, most))
}

func (s source) within(most int) int {
	return s.one(0, 1, -1, s.Intn(100)-50, s.Intn(2*most+1)-most, most, -most)
}

func (s source) number() int { return s.within(api.MaxValue) }

func (s source) numbers(n int) []int {
	var list []int
	for range n {
		list = append(list, s.number())
	}
	return list
}

func (s source) places(n, vars int) []int {
	var list []int
	for range n {
		list = append(list, s.Intn(vars))
	}
	return list
}

func (s source) terms(vars int) []api.Term {
	var list []api.Term
	for range s.few(api.MaxTerms) {
		list = append(list, api.Term{C: s.one(1, -1, api.MaxCoef, -api.MaxCoef, 1+s.Intn(api.MaxCoef), -1-s.Intn(9)), X: s.Intn(vars)})
	}
	return list
}

// name has the place in it, so that no two are the same.
func (s source) name(place int) string {
	const first = "abcdefghijklmnopqrstuvwxyzABCDEFGHIJKLMNOPQRSTUVWXYZ_"
	n := string(first[s.Intn(len(first))]) + fmt.Sprint(place)
	for range s.Intn(api.MaxName - len(n) + 1) {
		n += string((first + "0123456789")[s.Intn(len(first)+10)])
	}
	return n[:1] + "_" + n[1:min(len(n), api.MaxName-1)]
}

func (s source) variable(place int) api.Var {
	size := s.one(1, 2, 1+s.Intn(api.MaxDomain), api.MaxDomain)
	lo := s.one(0, -1, s.Intn(9)-4, -api.MaxValue, api.MaxValue-size+1, s.Intn(api.MaxValue-size))
	return api.Var{Name: s.name(place), Lo: lo, Hi: lo + size - 1}
}

func (s source) con(vars int) api.Con {
	c := api.Con{Kind: api.Lin + s.Intn(api.Count)}
	op, x, y, n := api.Le+s.Intn(3), s.Intn(vars), s.Intn(vars), s.few(api.MaxTerms)
	switch c.Kind {
	case api.Lin:
		c.Op, c.Terms, c.K = op, s.terms(vars), s.number()
	case api.Ne:
		c.X, c.Y, c.K = x, y, s.number()
	case api.AllDiff:
		c.Xs = s.places(n, vars)
	case api.Element:
		c.X, c.Y, c.Table = x, y, s.numbers(n)
	case api.Max, api.Min:
		c.Y, c.Xs = y, s.places(n, vars)
	case api.Reif:
		c.X, c.Terms, c.K = x, s.terms(vars), s.number()
	case api.Table:
		c.Xs = s.places(s.few(api.MaxCols), vars)
		for range n {
			c.Rows = append(c.Rows, s.numbers(len(c.Xs)))
		}
	case api.Count:
		c.Op, c.Xs, c.V, c.K = op, s.places(n, vars), s.number(), s.number()
	}
	return c
}

func (s source) problem() api.Model {
	var m api.Model
	for i := range s.few(api.MaxVars) {
		m.Vars = append(m.Vars, s.variable(i))
	}
	for range s.Intn(6) {
		m.Cons = append(m.Cons, s.con(len(m.Vars)))
	}
	if s.Intn(2) == 0 {
		m.HasGoal, m.Goal = true, s.terms(len(m.Vars))
	}
	return m
}

// sized: a right problem whose text has just so many bytes, which are some thousands.
func sized(bytes int) api.Model {
	name := strings.Repeat("n", api.MaxName)
	m := api.Model{Vars: []api.Var{{Name: name}}}
	left := func() int { return bytes - len(joined(written(m))) }
	for left() > 700 {
		m.Cons = append(m.Cons, api.Con{Kind: api.AllDiff, Xs: make([]int, min(api.MaxTerms, (left()-100)/(1+len(name))))})
	}
	c := api.Con{Kind: api.Element}
	for rest := left() - len("element  \n") - 2*len(name); rest > 0; {
		width := min(rest, 10) // of a blank and a number
		if rest == 11 {
			width = 9 // a blank alone can't be left
		}
		k, _ := strconv.Atoi(strings.Repeat("7", width-1))
		c.Table = append(c.Table, k)
		rest -= width
	}
	m.Cons = append(m.Cons, c)
	return m
}
