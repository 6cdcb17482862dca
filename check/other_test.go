package check_test

import (
	"fmt"
	"slices"
	"strconv"
	"strings"
)

// other makes another log out of one: often still a right one, or one that
// has a fault at some depth.
func (s source) other(list []string) []string {
	list = slices.Clone(list)
	for range 1 + s.Intn(3) {
		if len(list) == 0 {
			return list
		}
		i, j := s.Intn(len(list)), s.Intn(len(list))
		steps := beginning(list, "output")
		switch s.Intn(12) {
		case 0:
			list = slices.Delete(list, i, i+1)
		case 1:
			list = slices.Insert(list, i, list[j])
		case 2:
			list[i], list[j] = list[j], list[i]
		case 3, 4:
			list[i] = s.otherWord(list[i], list[j])
		case 5:
			list = list[:i]
		case 6, 7, 8, 9:
			list = slices.Insert(list, min(len(list), 2+s.Intn(max(1, steps-1))), s.step(list))
		default:
			if i = beginning(list, "conclusion"); i < len(list) {
				list[i] = s.claim(list, list[i])
			}
		}
	}
	return list
}

// beginning: the place of the first line that begins so; behind the last one, if there is none.
func beginning(list []string, with string) int {
	for i, line := range list {
		if strings.HasPrefix(line, with) {
			return i
		}
	}
	return len(list)
}

// otherWord puts another word in a word's place: one of another line, or a
// number or literal near it.
func (s source) otherWord(line, from string) string {
	words, others := strings.Fields(line), strings.Fields(from)
	if len(words) == 0 || len(others) == 0 {
		return from
	}
	i := s.Intn(len(words))
	if s.Intn(8) == 0 {
		return strings.Join(words[:i+1], " ")
	}
	w := words[i]
	n, err := strconv.Atoi(strings.TrimLeft(w, "~x"))
	switch k := s.Intn(6); {
	case k == 0 || err != nil:
		words[i] = others[s.Intn(len(others))]
	case strings.HasPrefix(w, "~"):
		words[i] = w[1:]
	case strings.HasPrefix(w, "x") && k < 3:
		words[i] = "~" + w
	case strings.HasPrefix(w, "x"):
		words[i] = literal(max(1, n-1+s.Intn(3)))
	default:
		words[i] = strconv.Itoa(n - 1 + s.Intn(3))
	}
	return strings.Join(words, " ")
}

// reach: about how many rows and variables there are, as the log's lines tell it.
func (s source) reach(list []string) (rows, vars int) {
	for _, line := range list {
		for _, w := range strings.Fields(line) {
			if n, err := strconv.Atoi(strings.TrimLeft(w, "~x")); err == nil && strings.Contains(w, "x") {
				vars = max(vars, n)
			} else if err == nil && (strings.HasPrefix(line, "f") || strings.HasPrefix(line, "del")) {
				rows = max(rows, n)
			}
		}
	}
	return rows + 3, max(1, vars+s.Intn(2)*s.Intn(2))
}

func (s source) lit(vars int) string { return literal((1 + s.Intn(vars)) * s.one(1, -1)) }

func (s source) clause(vars, degree int) string {
	row := ""
	for range s.Intn(4) {
		row += fmt.Sprint(s.one(1, 1, 1, 2, -1, 0), " ", s.lit(vars), " ")
	}
	return row + fmt.Sprint(">= ", s.one(degree, degree, degree-1, 0), " ;")
}

// step makes one that may be taken or not.
func (s source) step(list []string) string {
	rows, vars := s.reach(list)
	id := func() string { return strconv.Itoa(1 + s.Intn(rows)) }
	lits := ""
	for _, v := range s.Perm(vars)[:s.Intn(vars+1)] {
		lits += " " + literal((v+1)*s.one(1, -1))
	}
	switch s.Intn(9) {
	case 0:
		return "pol " + id() + " " + id() + " + " + strings.Join([]string{"s", "2 d", "3 *", s.lit(vars) + " +", "x" + id() + " w", id(), "+"}[:s.Intn(7)], " ")
	case 1:
		return "pol " + id() + " " + s.lit(vars) + " + 2 d"
	case 2:
		return "rup " + s.clause(vars, 1)
	case 3:
		return "rup " + s.clause(vars, 1) + " " + id() + " " + id() + " " + id()
	case 4:
		return "e " + id() + " " + s.clause(vars, 1)
	case 5:
		return "soli" + lits
	case 6:
		return "solx" + lits
	case 7:
		return "del id " + id() + []string{"", " " + id()}[s.Intn(2)]
	}
	return "* remark"
}

// claim makes a conclusion that may follow or not, near another one.
func (s source) claim(list []string, from string) string {
	rows, _ := s.reach(list)
	id, high := 1+s.Intn(rows), s.Intn(7)-3
	words := strings.Fields(from)
	if n, err := strconv.Atoi(words[len(words)-1]); err == nil && s.Intn(4) > 0 && strings.Contains(from, "BOUNDS") {
		high = n
	}
	if at := slices.Index(words, ":"); at > 0 && at+1 < len(words) && s.Intn(4) > 0 {
		id, _ = strconv.Atoi(words[at+1])
	}
	switch s.Intn(9) {
	case 0:
		return "conclusion NONE"
	case 1:
		return "conclusion SAT"
	case 2:
		return "conclusion UNSAT" + []string{"", fmt.Sprint(" : ", id)}[s.one(0, 1, 1)]
	case 3:
		return fmt.Sprintf("conclusion ALL %d : %d", s.Intn(5), id)
	case 4, 5:
		return fmt.Sprintf("conclusion BOUNDS %d : %d %d", high+1-s.Intn(5), id, high)
	}
	return fmt.Sprintf("conclusion BOUNDS %d %d", high+1-s.Intn(9), high)
}
