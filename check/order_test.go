package check_test

import (
	"regexp"
	"slices"
	"strconv"
	"strings"
	"testing"

	"hallmark/api"
	"hallmark/proof"
)

// letters: one for each kind of steps.
var letters = map[int]string{
	api.StepHead: "H", api.StepCount: "C", api.StepPol: "P", api.StepRup: "R", api.StepSoli: "S", api.StepSolx: "X", api.StepSame: "E", api.StepDel: "D",
	api.StepNote: "N", api.StepOutput: "O", api.StepEnds: "Z", api.StepLast: "L",
}

// onItsWay: how logs begin, and may go on; whole: those that are at their end.
var (
	onItsWay = regexp.MustCompile("^(H(N*C(N*[PRSXED])*N*(ON*(ZN*L?)?)?|N*))?$")
	whole    = regexp.MustCompile("^HN*C(N*[PRSXED])*N*ON*ZN*L$")
)

// orderFault tells the line of the first step that can't stand where it
// stands, or that is missing; 0: there is none.
func orderFault(t *testing.T, lines []string) int {
	t.Helper()
	kinds := ""
	for i, line := range lines {
		s, e := proof.Parse(line)
		if e != api.OK {
			t.Fatalf("%q: %d", line, e)
		}
		if kinds += letters[s.Kind]; !onItsWay.MatchString(kinds) {
			return i + 1
		}
	}
	if !whole.MatchString(kinds) {
		return len(lines) + 1
	}
	return 0
}

func askOrder(t *testing.T, list []string, fine string) {
	t.Helper()
	want := fine
	if at := orderFault(t, list); at > 0 {
		want = "100 at " + strconv.Itoa(at)
	}
	if got := says(t, free, text(list)); got != want {
		t.Errorf("P10.2: %q: %s, want %s", list, got, want)
	}
}

// oneEach: a line of each kind; those that may stand at any place of the steps
// are taken wherever they stand.
func oneEach() []string {
	return []string{head, "f 0", "pol x1", "rup >= 0 ;", "soli x1", "* f 1", "", " \t", "output NONE", "conclusion NONE", last}
}

// TestAllShortLogs goes through all logs of up to six lines.
func TestAllShortLogs(t *testing.T) { // P10.1, P10.2
	kinds := []string{head, "f 0", "pol x1", "*", "output NONE", "conclusion NONE", last}
	all := [][]string{nil}
	for at := 0; at < len(all); at++ {
		if askOrder(t, all[at], "None"); len(all[at]) < 6 {
			for _, line := range kinds {
				all = append(all, append(slices.Clone(all[at]), line))
			}
		}
	}
}

// TestOneLineOther lays lines into a log, takes them out, puts others in
// their place, and changes places.
func TestOneLineOther(t *testing.T) { // P10.2
	right := []string{head, "* a", "f 0", "", "pol x1", "rup 1 x1 >= 0 ;", "* b", "soli x1", "pol x1", "*", "output NONE", "\t", "conclusion NONE", "* c", last}
	askOrder(t, right, "None")
	for i := range right {
		askOrder(t, slices.Delete(slices.Clone(right), i, i+1), "None")
		askOrder(t, right[:i], "None")
		askOrder(t, right[i:], "None")
		for j := range i {
			other := slices.Clone(right)
			other[i], other[j] = other[j], other[i]
			askOrder(t, other, "None")
		}
		for _, line := range oneEach() {
			other := slices.Clone(right)
			other[i] = line
			askOrder(t, other, "None")
			askOrder(t, slices.Insert(slices.Clone(right), i, line), "None")
		}
	}
	for _, line := range oneEach() {
		askOrder(t, append(slices.Clone(right), line), "None")
	}
}

func TestEveryStepAtItsPlace(t *testing.T) { // P10.2
	steps := []string{"f 0", "solx x1", "pol 1 / del id 2 / e 1 1 ~x1 >= 1 ; / rup 1 ~x1 >= 1 ; 1"}
	list := append([]string{head}, lines(strings.Join(steps, " / "))...)
	list = append(list, "soli ~x1", "output NONE", "conclusion SAT", last)
	if got := says(t, free, text(list)); got != "Sat [0]" {
		t.Errorf("P10.2: %q: %s", list, got)
	}
	for _, line := range []string{"solx ~x1", "pol x1", "del id 1", "e 1 1 ~x1 >= 1 ;", "rup >= 0 ;", "soli x1"} {
		for i := range len(list) + 1 {
			if i >= 2 && i < len(list)-2 {
				continue // among the steps
			}
			other := slices.Insert(slices.Clone(list), i, line)
			if got, want := says(t, free, text(other)), "100 at "+strconv.Itoa(i+1); got != want {
				t.Errorf("P10.2: %q: %s, want %s", other, got, want)
			}
		}
	}
}

func TestCount(t *testing.T) { // P10.2
	for _, c := range []expect{
		{none, "f 1 / output NONE / conclusion NONE", "None"}, {free, "f 0 / output NONE / conclusion NONE", "None"}, {four, "f 3 / output NONE / conclusion NONE", "None"}, {four, "* / f 3 / output NONE / conclusion NONE", "None"},
		{none, "f 0 / output NONE", "101 at 2"}, {none, "f 2 / output NONE", "101 at 2"}, {free, "f 1", "101 at 2"}, {four, "* / \t / f 4", "101 at 4"}, {four, "f 2", "101 at 2"},
		{none, "f 18446744073709551617", "101 at 2"}, {none, "f 4294967297", "101 at 2"}, {free, "f 18446744073709551616", "101 at 2"}, {free, "f " + huge, "101 at 2"},
		{none, "f", "82 at 2"}, {none, "f -1", "81 at 2"}, {none, "f 01", "81 at 2"}, {none, "f +1", "81 at 2"}, {none, "f 1 1", "80 at 2"}, {none, "f x1", "81 at 2"},
		{none, "f 1 / f 1", "100 at 3"}, {none, "f 1 / f 9", "100 at 3"},
	} {
		c.ask(t, "P10.2")
	}
}

// TestWhichFaultIsFirst: of a line the parser's, then that of its place, then
// what it says; of lines the first one.
func TestWhichFaultIsFirst(t *testing.T) { // P10.1
	for _, c := range []expect{
		{none, "pol 0", "81 at 2"}, {none, "pol 9", "100 at 2"}, {none, "f 1 / conclusion UNSAT : 9", "100 at 3"}, {none, "f 1 / conclusion UNSAT : 0", "81 at 3"}, {none, "f 9 / pol 0", "101 at 2"}, {none, "f 1 / output NONE / pol 9", "100 at 4"}, {none, "f 1 / output NONE / pol", "82 at 4"},
		{none, "f 1 / output NONE / conclusion NONE / conclusion UNSAT : 9", "100 at 5"}, {none, "f 1 / output NONE / conclusion SAT / conclusion UNSAT : 9", "105 at 4"}, {none, "f 1 / output", "82 at 3"}, {none, "f 1 / output ALL", "80 at 3"}, {none, "f 1 / end", "82 at 3"}, {none, "what", "80 at 2"}, {none, "\xff\x00", "80 at 2"},
		{none, "f 1\r", "81 at 2"}, {none, "f 1 / output NONE\r", "80 at 3"}, {none, "f 1 / *\r", "80 at 3"},
	} {
		c.ask(t, "P10.1")
	}
	right := text([]string{head, "f 1", "output NONE", "conclusion UNSAT : 1", last})
	for _, c := range []struct{ log, want string }{
		{right, "Unsat"}, {strings.TrimSuffix(right, "\n"), "Unsat"}, {right + "\n", "100 at 6"}, {right + " ", "100 at 6"}, {right + "*", "100 at 6"}, {right + last, "100 at 6"}, {right + "what", "80 at 6"}, {right + "pol", "82 at 6"}, {right + right, "100 at 6"},
		{"\n" + right, "100 at 1"}, {"*\n" + right, "100 at 1"}, {" " + right, "Unsat"}, {"\n", "100 at 1"}, {"\n\n\n", "100 at 1"}, {" ", "100 at 1"}, {head, "100 at 2"}, {head + "\n", "100 at 2"}, {head + "\n\n", "100 at 3"}, {head + "\n\n*", "100 at 4"}, {head + "\nf 1", "100 at 3"}, {"pseudo-Boolean proof version 2.1\n", "80 at 1"}, {"pseudo-Boolean proof version", "82 at 1"}, {"\x00", "80 at 1"}, {"f 1\n", "100 at 1"}, {last, "100 at 1"},
		{strings.ReplaceAll(right, " ", "\t "), "Unsat"}, {strings.ReplaceAll(right, "\n", " \n"), "Unsat"}, {strings.ReplaceAll(right, "\n", "\n\t\n*\n"), "100 at 14"}, {strings.ReplaceAll(strings.TrimSuffix(right, "\n"), "\n", "\n\t\n*\n"), "Unsat"}, {strings.ReplaceAll(right, "\n", "\r\n"), "80 at 1"},
	} {
		if got := says(t, none, c.log); got != c.want {
			t.Errorf("P10.1: %q: %s, want %s", c.log, got, c.want)
		}
	}
}
