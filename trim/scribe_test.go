package trim_test

import (
	"fmt"
	"strings"
	"testing"

	"hallmark/api"
	"hallmark/encode"
	"hallmark/model"
	"hallmark/order"
)

const (
	head = "pseudo-Boolean proof version 2.0"
	last = "end pseudo-Boolean proof"
)

// scribe writes a right log with much in it that nothing leans on: it goes
// through all values, and writes of each that they aren't, and of each part of
// them that none of its parts is; some with hints, of which many aren't needed.
type scribe struct {
	source
	m     api.Model
	o     *order.Order
	lines []string
	first int   // the first row's id that is none of the problem's
	next  int   // the next row's id
	gone  []int // ids that were deleted
	all   bool
	found [][]int // solutions that were told
}

func (s source) scribe(t testing.TB, m api.Model, all bool) *scribe {
	t.Helper()
	o, e := order.New(m)
	rows, _ := encode.Rows(m)
	if e != api.OK {
		t.Fatalf("%+v: %d", m, e)
	}
	return &scribe{source: s, m: m, o: o, lines: []string{head, fmt.Sprint("f ", len(rows))}, first: len(rows) + 1, next: len(rows) + 1, all: all}
}

// log writes a log that ends with what there is to claim, or with less.
func (s *scribe) log() string {
	root := s.part(nil)
	claim := s.claim(root)
	s.aside()
	s.write("output NONE")
	s.write("conclusion %s", claim)
	s.write(last)
	return strings.Join(s.lines, "\n") + "\n"
}

func (s *scribe) claim(root int) string {
	n := len(s.found)
	switch {
	case s.Intn(12) == 0:
		return "NONE"
	case s.all:
		return fmt.Sprintf("ALL %d : %d", n, root)
	case n == 0:
		return fmt.Sprintf("UNSAT : %d", root)
	case s.m.HasGoal:
		return s.bounds(root, model.Worth(s.m, s.found[n-1]))
	}
	return "SAT"
}

// bounds: the least worth; a lesser bound; or the floor, with or without a row.
func (s *scribe) bounds(root, worth int) string {
	low, floor := worth, model.Floor(s.m)
	switch s.Intn(5) {
	case 0:
		return fmt.Sprintf("BOUNDS %d %d", floor, worth)
	case 1:
		low = floor - s.Intn(2)
	case 2:
		low--
	}
	if s.Intn(2) == 0 { // by a row that says so, and is no contradiction
		r, _ := encode.AtLeast(s.m, fmt.Sprint(low))
		root = s.row(fmt.Sprintf("rup%s ; %d", plain(r), root))
	}
	return fmt.Sprintf("BOUNDS %d : %d %d", low, root, worth)
}

func plain(r api.Row) string {
	text := ""
	for _, p := range r.Pieces {
		text += " " + p.C + " " + literal(p.L)
	}
	return text + " >= " + r.Degree
}

func (s *scribe) write(form string, args ...any) {
	s.lines = append(s.lines, fmt.Sprintf(form, args...))
}

// done: without a goal some solutions are enough.
func (s *scribe) done() bool {
	return !s.all && !s.m.HasGoal && len(s.found) > 0 && s.Intn(3) > 0
}

// part writes that the first variables haven't these values all: the row's id.
func (s *scribe) part(values []int) int {
	if len(values) == len(s.m.Vars) {
		return s.leaf(values)
	}
	v := s.m.Vars[len(values)]
	var parts []int
	for value := v.Lo; value <= v.Hi; value++ {
		parts = append(parts, s.part(append(values[:len(values):len(values)], value)))
		if s.done() || parts[len(parts)-1] == 0 {
			return 0
		}
	}
	id := s.unlike(values, parts)
	if s.Intn(2) == 0 {
		s.forget(parts)
	}
	return id
}

// unlike writes that values of the first variables aren't these: by a sum, by
// all rows, or by some of which not all are needed.
func (s *scribe) unlike(values, by []int) int {
	clause, hints := "", ""
	for _, l := range s.literals(values) {
		clause += " 1 " + literal(-l)
	}
	clause += " >= 1 ;"
	if s.Intn(2) == 0 && len(by) > 0 {
		hints = s.hints(by)
	}
	id := s.row("rup" + clause + hints)
	if s.Intn(6) == 0 {
		s.write("e %d%s", id, clause)
	}
	if s.Intn(4) == 0 { // the same row again, in another way
		id = s.row(fmt.Sprintf("pol %d %d * %d d s", id, id, id))
	}
	return id
}

// hints: these ids, those of all the problem's rows, and some others, some of
// them twice, in any order.
func (s *scribe) hints(by []int) string {
	list := append([]int(nil), by...)
	for id := 1; id < s.first; id++ {
		list = append(list, id)
	}
	for range s.Intn(4) {
		if id := 1 + s.Intn(s.next-1); !s.isGone(id) {
			list = append(list, id, id)
		}
	}
	s.Shuffle(len(list), func(i, j int) { list[i], list[j] = list[j], list[i] })
	text := ""
	for _, id := range list {
		text += fmt.Sprint(" ", id)
	}
	return text
}

func (s *scribe) isGone(id int) bool {
	for _, other := range s.gone {
		if other == id {
			return true
		}
	}
	return false
}

// row writes a step that adds one.
func (s *scribe) row(line string) int {
	s.write("%s", line)
	id := s.next
	s.next++
	if s.Intn(6) == 0 {
		s.aside()
	}
	return id
}

// aside writes what nothing leans on.
func (s *scribe) aside() {
	id := 1 + s.Intn(s.next)
	if id == s.next || s.isGone(id) {
		s.write("%s", []string{"* nothing", "", " \t", "*"}[s.Intn(4)])
		return
	}
	switch s.Intn(4) {
	case 0:
		s.write("rup >= 0 ; %d", id)
	case 1:
		s.write("pol %d %d * %d +", id, s.next, id)
	case 2:
		s.write("rup 1 x1 >= 0 ;")
		if s.o.Count() == 0 {
			s.lines[len(s.lines)-1] = "rup >= -3 ;"
		}
	case 3:
		s.write("pol %d s", id)
		s.forget([]int{s.next})
	}
	s.next++
}

// forget deletes rows.
func (s *scribe) forget(ids []int) {
	var gone []string
	for _, id := range ids {
		if id >= s.first && !s.isGone(id) && s.Intn(4) > 0 {
			s.gone = append(s.gone, id)
			gone = append(gone, fmt.Sprint(id))
		}
	}
	if len(gone) > 0 {
		s.write("del id %s", strings.Join(gone, " "))
	}
}

// literals: from which the values of the first variables follow.
func (s *scribe) literals(values []int) []int {
	var list []int
	for x, v := range values {
		if n, what := s.o.AtLeast(x, v); what == api.Lit {
			list = append(list, n)
		}
		if n, what := s.o.AtLeast(x, v+1); what == api.Lit {
			list = append(list, -n)
		}
	}
	return list
}

// leaf writes that the values aren't these: they are no solution, or they are
// told as one, or they aren't better than one that was told. (0: a solution
// without a goal, of which nothing is written.)
func (s *scribe) leaf(values []int) int {
	if !model.Solution(s.m, values) || !s.all && !s.better(values) {
		return s.unlike(values, nil)
	}
	s.found = append(s.found, values)
	line := ""
	for _, l := range s.told(values) {
		line += " " + literal(l)
	}
	switch {
	case s.all:
		return s.row("solx" + line)
	case !s.m.HasGoal && s.Intn(2) == 0:
		return s.row("solx" + line)
	case !s.m.HasGoal:
		s.write("soli%s", line)
		return 0
	}
	s.row("soli" + line)
	return s.unlike(values, nil)
}

func (s *scribe) better(values []int) bool {
	n := len(s.found)
	return n == 0 || !s.m.HasGoal || model.Worth(s.m, values) < model.Worth(s.m, s.found[n-1])
}

// told: as few literals as do, or all, in any order.
func (s *scribe) told(values []int) []int {
	list := s.literals(values)
	if s.Intn(3) == 0 {
		set, _ := s.o.Assignment(values)
		list = nil
		for i, is := range set {
			list = append(list, i+1)
			if !is {
				list[i] = -i - 1
			}
		}
	}
	s.Shuffle(len(list), func(i, j int) { list[i], list[j] = list[j], list[i] })
	return list
}

func literal(l int) string {
	if l < 0 {
		return fmt.Sprint("~x", -l)
	}
	return fmt.Sprint("x", l)
}
