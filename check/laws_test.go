package check_test

import (
	"fmt"
	"slices"
	"strings"
	"testing"

	"hallmark/api"
	"hallmark/check"
	"hallmark/model"
	"hallmark/proof"
	problem "hallmark/text"
)

// wrong tells what isn't so of a verdict; nothing: it is so, by counting.
func wrong(m api.Model, v api.Verdict) string {
	all := solutions(m)
	is := slices.ContainsFunc(all, func(one []int) bool { return slices.Equal(one, v.Values) })
	below := func(worth int) bool {
		return slices.ContainsFunc(all, func(one []int) bool { return model.Worth(m, one) < worth })
	}
	switch {
	case v.Kind == api.Unsat && len(all) > 0:
		return "there is a solution"
	case v.Kind == api.Sat && m.HasGoal:
		return "there is a goal"
	case v.Kind >= api.Sat && v.Kind <= api.Bounds && !is:
		return "no solution"
	case (v.Kind == api.Best || v.Kind == api.Bounds) && (!m.HasGoal || model.Worth(m, v.Values) != v.Worth):
		return "another worth"
	case v.Kind == api.Best && below(v.Worth):
		return "there is a lesser worth"
	case v.Kind == api.Bounds && (below(v.Low) || v.Low >= v.Worth):
		return "the lower bound"
	case v.Kind == api.All && v.Count != len(all):
		return fmt.Sprint("there are ", len(all))
	case v.Kind < api.None || v.Kind > api.All:
		return "no verdict"
	}
	return ""
}

// answer tells the verdict that there is, by counting; of a Sat without values.
func answer(m api.Model, all bool) string {
	list := solutions(m)
	switch {
	case all:
		return fmt.Sprint("All ", len(list))
	case len(list) == 0:
		return "Unsat"
	case !m.HasGoal:
		return "Sat"
	}
	least := model.Worth(m, list[0])
	for _, one := range list {
		least = min(least, model.Worth(m, one))
	}
	return fmt.Sprint("Best ", least)
}

// TestRightLogs: what is so can be proved, and what Check lets through is so.
func TestRightLogs(t *testing.T) { // P22.1, P10.1 to P10.7
	s := newSource()
	found := map[string]int{}
	for i := range 600 {
		p, m := s.problem(t)
		list := s.scribe(t, m, i%3 == 0).log()
		v, err := check.Check(p, text(list))
		if err != nil {
			t.Fatalf("%s%s: %v", p, text(list), err)
		}
		if f := wrong(m, v); f != "" {
			t.Fatalf("P22.1: %s%s: %+v: %s", p, text(list), v, f)
		}
		want := answer(m, i%3 == 0)
		if found[want[:3]]++; !strings.HasPrefix(verdict(t, v), want) {
			t.Fatalf("%s%s: %+v, want %s", p, text(list), v, want)
		}
	}
	for _, kind := range []string{"All", "Uns", "Sat", "Bes"} {
		if found[kind] < 50 {
			t.Errorf("too few to tell: %v", found)
		}
	}
}

// TestOtherLogs holds Check against the clerk, and every verdict against counting.
func TestOtherLogs(t *testing.T) { // P22.1, P10.1 to P10.7
	s := newSource()
	found := map[string]int{}
	for i := range 1500 {
		p, m := s.problem(t)
		writer := s.scribe(t, m, i%3 == 0)
		writer.loose = i%2 == 0
		list := writer.log()
		if i%4 == 0 {
			list = []string{head, list[1], "output NONE", "conclusion NONE", last}
		}
		for range 12 {
			l := text(s.other(list))
			got, want := says(t, p, l), judged(t, p, l)
			if got != want {
				t.Fatalf("%s%s: %s, want %s", p, l, got, want)
			}
			found[strings.Fields(got)[0]]++
			if v, err := check.Check(p, l); err == nil && wrong(m, v) != "" {
				t.Fatalf("P22.1: %s%s: %+v: %s", p, l, v, wrong(m, v))
			}
		}
	}
	for _, kind := range []string{"None", "Unsat", "Sat", "Best", "Bounds", "All", "80", "81", "82", "90", "91", "92", "93", "100", "101", "102", "103", "104", "105", "106"} {
		if found[kind] < 10 {
			t.Errorf("too few of %s to tell: %v", kind, found)
		}
	}
}

// TestRemarksAndDeletions lays remarks into right logs, takes them out, and
// takes out deletions.
func TestRemarksAndDeletions(t *testing.T) { // P10.8
	s := newSource()
	remarks, dels := 0, 0
	for i := range 400 {
		p, m := s.problem(t)
		list := s.scribe(t, m, i%2 == 0).log()
		want := says(t, p, text(list))
		for _, c := range []struct {
			name string
			list []string
		}{
			{"more remarks", s.remarked(list)}, {"fewer remarks", s.without(list, api.StepNote, 2)}, {"no remarks", s.without(list, api.StepNote, 1)},
			{"fewer deletions", s.without(list, api.StepDel, 2)}, {"no deletions", s.without(list, api.StepDel, 1)}, {"more remarks, fewer deletions", s.remarked(s.without(list, api.StepDel, 2))},
		} {
			if got := says(t, p, text(c.list)); got != want {
				t.Fatalf("P10.8: %s: %s%s: %s; it was %s", c.name, p, text(c.list), got, want)
			}
		}
		remarks += len(list) - len(s.without(list, api.StepNote, 1))
		dels += len(list) - len(s.without(list, api.StepDel, 1))
		n := len(list)
		if a, b := says(t, p, text(slices.Insert(slices.Clone(list), 0, "*"))), says(t, p, text(append(list, ""))); a != "100 at 1" || b != fmt.Sprint("100 at ", n+1) {
			t.Fatalf("P10.2: %s%s: a remark ahead: %s; behind: %s", p, text(list), a, b)
		}
	}
	if remarks < 100 || dels < 100 {
		t.Errorf("P10.8: too few to tell: %d remarks, %d deletions", remarks, dels)
	}
}

// remarked lays remarks between the first line and the last one.
func (s source) remarked(list []string) []string {
	list = slices.Clone(list)
	for range 1 + s.Intn(6) {
		remark := []string{"*", "* f 3", "", "\t ", "* conclusion SAT \xff", "  * x"}[s.Intn(6)]
		list = slices.Insert(list, 1+s.Intn(len(list)-1), remark)
	}
	return list
}

// without takes one of n steps of a kind out.
func (s source) without(list []string, kind, n int) []string {
	return slices.DeleteFunc(slices.Clone(list), func(line string) bool {
		step, _ := proof.Parse(line)
		return step.Kind == kind && s.Intn(n) == 0
	})
}

// TestRowsHoldOfWhatIsLeft: behind each step of a log its base has just the
// clerk's rows, and these hold of all solutions that are left.
func TestRowsHoldOfWhatIsLeft(t *testing.T) { // P10.9
	s := newSource()
	left := 0
	for i := range 250 {
		p, m := s.problem(t)
		list := s.scribe(t, m, i%2 == 0).log()
		if i%3 == 0 {
			list = s.mixed(list)
		}
		c := newClerk(t, m)
		var ahead []string
		for _, line := range list {
			if c.take(line) != api.OK {
				continue // a line that isn't taken is left out
			}
			if ahead = append(ahead, line); strings.HasPrefix(line, "output") {
				break
			}
			if len(ahead) < 2 || s.Intn(4) > 0 {
				continue
			}
			if got := says(t, p, text(append(slices.Clone(ahead), c.standing()...))); got != "None" {
				t.Fatalf("P10.9: %s%s: other rows: %s", p, text(append(slices.Clone(ahead), c.standing()...)), got)
			}
			left += c.askLeft(t, p)
		}
	}
	if left < 5000 {
		t.Errorf("P10.9: too few to tell: %d", left)
	}
}

// mixed lays steps into a log.
func (s source) mixed(list []string) []string {
	for range 10 {
		list = slices.Insert(slices.Clone(list), 2+s.Intn(len(list)-4), s.step(list))
	}
	return list
}

// standing writes lines that are right just if the rows are the clerk's, up to the log's end.
func (c *clerk) standing() []string {
	var list []string
	for id, r := range c.base.All() {
		line, _ := proof.Print(api.Step{Kind: api.StepSame, Ids: []string{fmt.Sprint(id)}, Row: r.Plain()})
		list = append(list, line)
	}
	return append(list, "output NONE", "conclusion NONE", last)
}

// askLeft asks of each solution that is left whether all rows hold of it, and
// tells how many were asked.
func (c *clerk) askLeft(t *testing.T, p string) int {
	t.Helper()
	asked := 0
	for _, values := range solutions(c.m) {
		if !c.isLeft(values) {
			continue
		}
		set, _ := c.o.Assignment(values)
		for id, r := range c.base.All() {
			if asked++; !r.Holds(func(v int) bool { return set[v-1] }) {
				t.Fatalf("P10.9: %s%v: row %d, %v, doesn't hold of %v", p, c.taken, id, r.Plain(), values)
			}
		}
	}
	return asked
}

// isLeft: no StepSolx told it, and it is better than what each StepSoli told.
func (c *clerk) isLeft(values []int) bool {
	for i, told := range c.tells {
		kind := c.taken[i].Kind
		if kind == api.StepSolx && slices.Equal(told, values) {
			return false
		}
		if kind == api.StepSoli && c.m.HasGoal && model.Worth(c.m, values) >= model.Worth(c.m, told) {
			return false
		}
	}
	return true
}

// TestProblemsFaults: of what is no right problem's text the parser's fault,
// whatever the log.
func TestProblemsFaults(t *testing.T) { // P22.8, P10.1
	logs := []string{"", "*", head, log("f 1", "output NONE", "conclusion NONE"), "\xff\n\n"}
	for _, m := range []string{"", "\n", "var", "var x", "var x 0", "var x 0 1 2", "var x 1 0", "var x 0 64", "var 9 0 1", "x", "var x 0 1\nvar x 0 1", "var x 0 1\nlin < 1 1 x", "var x 0 1\nlin <= 1 0 x", "lin <= 1 1 x", "var x 0 1\nminimize 1 x\nminimize 1 x", "var x 0 1\n\n\nne x x", "\xff", "var x 0 1\r\n", "#", strings.Repeat("#", api.MaxModel+1), "var x 0 1\n" + strings.Repeat(" ", api.MaxModel)} {
		_, err := problem.Parse(m)
		f, ok := err.(*api.Fault)
		if !ok {
			t.Fatalf("%.80q: %v", m, err)
		}
		for _, l := range logs {
			if got := says(t, m, l); got != fault(f) || !strings.HasSuffix(got, "of the problem") {
				t.Errorf("P22.8: %.80q, %q: %s, want %s", m, l, got, fault(f))
			}
		}
	}
	long := "var x 0 1\n" + strings.Repeat(" ", api.MaxModel-10)
	if got := says(t, long, log("f 0", "output NONE", "conclusion NONE")); got != "None" {
		t.Errorf("P22.8: a problem of MaxModel bytes: %s", got)
	}
}

// TestFirstFault: the line that is told isn't right, those ahead of it are,
// and what stands behind it changes nothing.
func TestFirstFault(t *testing.T) { // P22.8, P10.1
	s := newSource()
	faults := 0
	for i := range 800 {
		p, m := s.problem(t)
		right := s.scribe(t, m, i%3 == 0).log()
		list := s.other(right)
		_, err := check.Check(p, text(list))
		f, ok := err.(*api.Fault)
		if !ok || f.Line > len(list) || len(list) == 0 {
			continue
		}
		faults++
		behind := append(slices.Clone(list[:f.Line]), s.other(right)...)
		for _, l := range []string{text(list[:f.Line]), strings.Join(list[:f.Line], "\n"), text(behind), text(behind) + "\xff\x00"} {
			if got := says(t, p, l); got != fault(f) {
				t.Fatalf("P22.8: %s%s: %s; it was %s", p, l, got, fault(f))
			}
		}
		cut := ""
		if f.Line > 1 {
			cut = text(list[:f.Line-1])
		}
		if got := says(t, p, cut); got != fmt.Sprint("100 at ", f.Line) && !strings.HasSuffix(cut, last+"\n") {
			t.Fatalf("P22.8: %s%s: cut ahead of line %d: %s", p, text(list), f.Line, got)
		}
	}
	if faults < 300 {
		t.Errorf("P22.8: too few to tell: %d", faults)
	}
}

// TestAllBytes: whatever the texts are, there is an answer, and always the same one.
func TestAllBytes(t *testing.T) { // P22.9's part, rule 6
	s := newSource()
	for i := range 2000 {
		p, m := s.problem(t)
		l := []byte(text(s.scribe(t, m, i%3 == 0).log()))
		q := []byte(p)
		for range 1 + s.Intn(3) {
			l[s.Intn(len(l))] = byte(s.Intn(256))
		}
		if s.Intn(4) == 0 {
			q[s.Intn(len(q))] = byte(s.Intn(256))
		}
		if a, b := says(t, string(q), string(l)), judged(t, string(q), string(l)); a != b {
			t.Fatalf("%q, %q: %s, want %s", q, l, a, b)
		}
	}
}

// TestAnswersStandAlone: DOC.md's rule 3.
func TestAnswersStandAlone(t *testing.T) { // P10.7
	l := log("f 3", "soli ~x3", "soli x3", "output NONE", "conclusion SAT")
	first, _ := check.Check(four, l)
	second, _ := check.Check(four, l)
	clear(first.Values[:cap(first.Values)])
	third, err := check.Check(four, l)
	if err != nil || !slices.Equal(second.Values, []int{3}) || !slices.Equal(third.Values, []int{3}) {
		t.Errorf("rule 3: %v, %v, %v", second, third, err)
	}
}
