package check_test

import (
	"fmt"
	"strings"
	"testing"

	"hallmark/api"
	"hallmark/encode"
	"hallmark/model"
	"hallmark/order"
)

// scribe writes a right log: it goes through all values, and writes of each
// that they aren't, and of each part of them that none of its parts is.
type scribe struct {
	source
	m     api.Model
	o     *order.Order
	lines []string
	next  int // the next row's id
	all   bool
	loose bool    // of the least worth no more is claimed than that there is none two below it
	found [][]int // solutions that were told
}

func (s source) scribe(t *testing.T, m api.Model, all bool) *scribe {
	t.Helper()
	o, e := order.New(m)
	rows, _ := encode.Rows(m)
	if e != api.OK {
		t.Fatalf("%+v: %d", m, e)
	}
	return &scribe{s, m, o, []string{head, fmt.Sprint("f ", len(rows))}, len(rows) + 1, all, false, nil}
}

// log writes a log that ends with what there is to claim.
func (s *scribe) log() []string {
	root := s.part(nil)
	s.write("output NONE")
	n := len(s.found)
	switch {
	case s.all:
		s.write("conclusion ALL %d : %d", n, root)
	case n == 0:
		s.write("conclusion UNSAT : %d", root)
	case s.m.HasGoal:
		w := model.Worth(s.m, s.found[n-1])
		low := w
		if s.loose {
			low--
		}
		s.write("conclusion BOUNDS %d : %d %d", low, root, w)
	default:
		s.write("conclusion SAT")
	}
	s.put(last)
	return s.lines
}

func (s *scribe) put(line string) { s.lines = append(s.lines, line) }

func (s *scribe) write(form string, args ...any) { s.put(fmt.Sprintf(form, args...)) }

// done: without a goal one solution is enough.
func (s *scribe) done() bool { return !s.all && !s.m.HasGoal && len(s.found) > 0 }

// part writes that the first variables haven't these values all: the row's id.
func (s *scribe) part(values []int) int {
	if len(values) == len(s.m.Vars) {
		return s.leaf(values)
	}
	v := s.m.Vars[len(values)]
	var parts []string
	for value := v.Lo; value <= v.Hi; value++ {
		parts = append(parts, fmt.Sprint(s.part(append(values[:len(values):len(values)], value))))
		if s.done() {
			return 0
		}
	}
	id := s.unlike(values, parts)
	if s.Intn(2) == 0 {
		s.forget(parts)
	}
	return id
}

// unlike writes that values of the first variables aren't these, by all rows or by some.
func (s *scribe) unlike(values []int, by []string) int {
	clause := "rup"
	for _, l := range s.literals(values) {
		clause += " 1 " + literal(-l)
	}
	clause += " >= 1 ;"
	if s.Intn(2) == 0 && len(by) > 0 {
		clause += " " + strings.Join(by, " ")
	}
	return s.row(clause)
}

// row writes a step that adds one.
func (s *scribe) row(line string) int {
	s.put(line)
	id := s.next
	s.next++
	if s.Intn(6) == 0 {
		s.aside()
	}
	return id
}

// aside writes what nothing leans on.
func (s *scribe) aside() {
	switch s.Intn(4) {
	case 0:
		s.write("* row %d", s.next)
	case 1:
		s.write("")
	case 2:
		s.write("pol %d 3 * 2 d s", s.next-1)
		s.next++
	case 3:
		s.write("rup >= 0 ; %d", s.next-1)
		s.next++
	}
}

// forget deletes rows.
func (s *scribe) forget(ids []string) {
	if s.Intn(2) == 0 {
		s.put("del id " + strings.Join(ids, " "))
		return
	}
	for _, id := range ids {
		if s.Intn(3) > 0 {
			s.put("del id " + id)
		}
	}
}

// literals: from which the values of the first variables follow.
func (s *scribe) literals(values []int) []int {
	var list []int
	for x, v := range values {
		if n, what := s.o.AtLeast(x, v); what == api.Lit {
			list = append(list, n)
		}
		if n, what := s.o.AtLeast(x, v+1); what == api.Lit {
			list = append(list, -n)
		}
	}
	return list
}

// leaf writes that the values aren't these: they are no solution, or they are
// told as one, or they aren't better than one that was told.
func (s *scribe) leaf(values []int) int {
	if !model.Solution(s.m, values) || !s.all && !s.better(values) {
		return s.unlike(values, nil)
	}
	s.found = append(s.found, values)
	line := ""
	for _, l := range s.told(values) {
		line += " " + literal(l)
	}
	switch {
	case s.all:
		return s.row("solx" + line)
	case !s.m.HasGoal:
		s.put("soli" + line)
		return 0
	}
	s.row("soli" + line)
	return s.unlike(values, nil)
}

func (s *scribe) better(values []int) bool {
	n := len(s.found)
	return n == 0 || s.m.HasGoal && model.Worth(s.m, values) < model.Worth(s.m, s.found[n-1])
}

// told: as few literals as do, or all, in any order.
func (s *scribe) told(values []int) []int {
	list := s.literals(values)
	if s.Intn(3) == 0 {
		set, _ := s.o.Assignment(values)
		list = nil
		for i, is := range set {
			list = append(list, i+1)
			if !is {
				list[i] = -i - 1
			}
		}
	}
	s.Shuffle(len(list), func(i, j int) { list[i], list[j] = list[j], list[i] })
	return list
}

func literal(l int) string {
	if l < 0 {
		return fmt.Sprint("~x", -l)
	}
	return fmt.Sprint("x", l)
}
