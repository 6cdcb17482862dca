package script_test

import (
	"strings"
	"testing"

	"hallmark/api"
	"hallmark/script"
)

// Problems of few values.
const (
	least   = "var x 0 3\nlin >= 2 1 x\nminimize 1 x\n"           // best: 2
	free    = "var x 0 3\n"                                       // four solutions
	never   = "var x 0 1\nlin <= 5 1 x\nlin >= 2 1 x\nne x x 0\n" // no solution by each of the last two alone
	pairs   = "var a 1 2\nvar b 1 2\nne a b 0"                    // two solutions
	too     = "var a 0 60\nvar b 0 60\nvar c 0 60\n"              // more values than are counted
	counted = "var a 1 50\nvar b 1 50\nvar c 1 40\n"              // just as many as are
	wrong   = "var x 0 1\nlin <= y\n"                             // a fault on line 2
)

// refuted: a log that shows of a problem whose row 1 can't hold that it has no solution.
const refuted = "pseudo-Boolean proof version 2.0\nf 1\noutput NONE\nconclusion UNSAT : 1\nend pseudo-Boolean proof\n"

// over: the problem that refuted is about.
const over = "var x 0 1\nlin >= 2 1 x\n"

func TestProblem(t *testing.T) { // P20.7
	plays(t, session(least), "problem 1 1")
	plays(t, session(pairs), "problem 2 1")
	plays(t, session(never), "problem 1 3")
	plays(t, session(free), "problem 1 0")
	plays(t, session(wrong), "fault 1 2 53")
	plays(t, session(""), "fault 1 1 59")
	plays(t, session("\n\n"), "fault 1 3 59")
	plays(t, session("var x 0 64"), "fault 1 1 42")
	plays(t, session(free, "check", session(pairs), "show"), "problem 1 0", "fault 2 1 100", "problem 2 1", "text "+text(pairs+"\n"))
}

func TestProblemForgetsTheLog(t *testing.T) { // P20.7: it is the empty text, given
	log := "log " + text(refuted)
	plays(t, session(over, log, "check", session(over, "check", "drop 1")), "problem 1 1", "lines 5", "unsat", "problem 1 1", "fault 2 1 100", "no line")
	plays(t, session(over, "solve", "drop 1", session(over, "drop 1", "check")), "problem 1 1", "unsat", "made", "problem 1 1", "no line", "fault 2 1 100")
	plays(t, session(over, "solve", session(wrong, "drop 1", "check")), "problem 1 1", "unsat", "fault 1 2 53", "no line", "fault 1 2 53")
	plays(t, session(wrong, log, "drop 1", session(over, "check")), "fault 1 2 53", "lines 5", "lines 4", "problem 1 1", "fault 2 1 100")
}

func TestLog(t *testing.T) { // P20.7
	for s, want := range map[string]string{"": "lines 0", "\n": "lines 1", "x": "lines 1", "x\n": "lines 1", "x\n\n": "lines 2", "x\ny": "lines 2", "\n\n\nx": "lines 4", refuted: "lines 5"} {
		plays(t, "log "+text(s), want)
	}
	plays(t, session(over, "log "+text(refuted), "check", `log "x"`, "check", `log ""`, "check"), "problem 1 1", "lines 5", "unsat", "lines 1", "fault 2 1 80", "lines 0", "fault 2 1 100")
	plays(t, session(over, "solve", "drop 1", `log "x"`, "drop 1"), "problem 1 1", "unsat", "made", "lines 1", "lines 0") // it is given again
	plays(t, "log "+text(refuted)+"\n"+strings.Repeat("drop 1\n", 6), "lines 5", "lines 4", "lines 3", "lines 2", "lines 1", "lines 0", "no line")
}

func TestSolve(t *testing.T) { // P20.7
	plays(t, session(least, "solve", "check", "solve 1 -2 9", "check"), "problem 1 1", "best 2 2", "best 2 2", "best 2 2", "best 2 2")
	plays(t, session("var x -3 3\nvar y 0 2\nminimize 2 x -1 y\n", "solve", "check"), "problem 2 0", "best -8 -3 2", "best -8 -3 2")
	plays(t, session(never, "solve", "check"), "problem 1 3", "unsat", "unsat")
	plays(t, session(free, "solve", "check", "solve 1", "check"), "problem 1 0", "sat 0", "sat 0", "sat 0", "sat 0")
	plays(t, session(wrong, "solve", "check"), "fault 1 2 53", "fault 1 2 53", "fault 1 2 53")
	plays(t, session(too, "solve", "check"), "problem 3 0", "great", "fault 2 1 100")
	plays(t, session(counted, "solve", "check"), "problem 3 0", "sat 1 1 1", "sat 1 1 1")
	plays(t, session("var a 1 50\nvar b 1 50\nvar c 1 41\n", "solve"), "problem 3 0", "great")
}

func TestSolveHasFuelEnough(t *testing.T) { // P20.7: P22.3's, whatever the branching
	const pigeons = "var a 1 7\nvar b 1 7\nvar c 1 7\nvar d 1 7\nvar e 1 7\nlin = 3 2 a 2 b 2 c 2 d 2 e\nlin = 71 2 a 2 b 2 c 2 d 2 e\n"
	plays(t, session(pigeons, "solve", "all 3 1 4"), "problem 5 2", "unsat", "all 0")
	const even = "var a 0 15\nvar b 0 15\nvar c 0 15\nlin = 33 2 a 2 b 2 c\nminimize 1 a\n" // all splits are needed: bounds don't tell that twice a sum isn't odd
	plays(t, session(even, "solve", "all", "check", "try 200"), "problem 3 1", "unsat", "all 0", "all 0", "none proved")
	loose := "var a 0 9\nvar b 0 9\nvar c 0 9\n" + strings.Repeat("lin <= 27 1 a 1 b 1 c\n", 20) // each of them is called at each node
	plays(t, session(loose, "all", "all 5 -1 3"), "problem 3 20", "all 1000", "all 1000")
}

func TestLogStays(t *testing.T) { // P20.7: behind an act that makes none
	log := "log " + text(refuted)
	for _, c := range []struct{ act, line string }{
		{"try 9", "unsat proved"}, {"holds 1", "no solution"}, {"show", "text " + text(over)}, {"core", "core 0"}, {"check", "unsat"}, {"drop 9", "no line"}, {`change 0 "x"`, "no line"},
	} {
		plays(t, session(over, log, c.act, "check", "drop 5", "check"), "problem 1 1", "lines 5", c.line, "unsat", "lines 4", "fault 2 5 100")
	}
	spoiled := "log " + text(strings.Replace(refuted, "f 1", "f 2", 1))
	plays(t, session(over, spoiled, "trim", "drop 1"), "problem 1 1", "lines 5", "fault 2 2 101", "lines 4")
	for _, act := range []string{"solve", "all", "core"} {
		plays(t, session(too, log, act, "drop 1", "check"), "problem 3 0", "lines 5", "great", "lines 4", "fault 2 1 100")
		plays(t, session(wrong, log, act, "drop 1"), "fault 1 2 53", "lines 5", "fault 1 2 53", "lines 4")
	}
	plays(t, session(never, "all", "check", "try 99", "check", "drop 1"), "problem 1 3", "all 0", "all 0", "unsat proved", "all 0", "made")
}

func TestTry(t *testing.T) { // P20.7
	plays(t, session(least, "try 0", "try -5", "try 99", "try 99 1 2", "try 1099511627776"), "problem 1 1", "none proved", "none proved", "best 2 2 proved", "best 2 2 proved", "best 2 2 proved")
	plays(t, session("var x 0 3\nvar y 0 3\nlin >= 5 1 x 1 y\nminimize 1 x\n", "try 7 4 -1"), "problem 2 1", "bounds 0 2 2 3 proved")
	plays(t, session(free, "try 99"), "problem 1 0", "sat 0 proved")
	plays(t, session(never, "try 99", "drop 1"), "problem 1 3", "unsat proved", "no line")
	plays(t, session(too, "try 900", "try 3"), "problem 3 0", "sat 0 0 0 proved", "none proved")
	plays(t, session(wrong, "try 9"), "fault 1 2 53", "fault 1 2 53")
}

func TestAll(t *testing.T) { // P20.7
	plays(t, session(free, "all", "check", "drop 1", "all 2 2", "check"), "problem 1 0", "all 4", "all 4", "made", "all 4", "all 4")
	plays(t, session(least, "all", "check", "solve", "check"), "problem 1 1", "all 2", "all 2", "best 2 2", "best 2 2") // the goal isn't looked at
	plays(t, session(pairs, "all 1", "trim", "check"), "problem 2 1", "all 2", "trimmed", "all 2")
	plays(t, session(never, "all"), "problem 1 3", "all 0")
	plays(t, session(wrong, "all"), "fault 1 2 53", "fault 1 2 53")
	plays(t, session(too, "all"), "problem 3 0", "great")
}

func TestCore(t *testing.T) { // P20.7
	plays(t, session(never, "core"), "problem 1 3", "core 1")
	plays(t, session("var x 0 3\nlin >= 2 1 x\nlin <= 9 1 x\nlin <= 1 1 x\n", "core", "drop 1"), "problem 1 3", "core 0 2", "no line")
	plays(t, session(free, "core"), "problem 1 0", "no core")
	plays(t, session(least, "core"), "problem 1 1", "no core")
	plays(t, session(wrong, "core"), "fault 1 2 53", "fault 1 2 53")
	plays(t, session(too+"lin >= 181 1 a 1 b 1 c\n", "core"), "problem 3 1", "great")
	plays(t, session(counted+"lin >= 141 1 a 1 b 1 c\n", "core"), "problem 3 1", "core 0")
}

func TestCheck(t *testing.T) { // P20.7: the checker's verdict or fault of what is there
	log := func(conclusion string) string {
		return "log " + text(strings.Replace(refuted, "UNSAT : 1", conclusion, 1))
	}
	plays(t, session(over, log("NONE"), "check", log("UNSAT"), "check", log("UNSAT : 1"), "check", log("UNSAT : 2"), "check", log("SAT"), "check"),
		"problem 1 1", "lines 5", "none", "lines 5", "fault 2 4 105", "lines 5", "unsat", "lines 5", "fault 2 4 90", "lines 5", "fault 2 4 105")
	plays(t, "log "+text(refuted)+"\ncheck", "lines 5", "fault 1 1 59")
	const bounds = "pseudo-Boolean proof version 2.0\nf 3\nsoli x1 x2 x3\noutput NONE\nconclusion BOUNDS 0 3\nend pseudo-Boolean proof\n"
	plays(t, session(least, "log "+text(bounds), "check"), "problem 1 1", "lines 6", "bounds 0 3 3")
}

func TestTrim(t *testing.T) { // P20.7
	log := "log " + text(strings.Replace(refuted, "output", "* a remark\noutput", 1))
	plays(t, session(over, log, "check", "trim", "check", "drop 3", "trim", "check"), "problem 1 1", "lines 6", "unsat", "trimmed", "unsat", "made", "trimmed", "unsat")
	plays(t, session(over, "trim", `log "x"`, "trim", "drop 1"), "problem 1 1", "fault 2 1 100", "lines 1", "fault 2 1 80", "lines 0")
	plays(t, session(wrong, "trim"), "fault 1 2 53", "fault 1 2 53")
	plays(t, session(least, "solve 3", "trim", "check"), "problem 1 1", "best 2 2", "trimmed", "best 2 2")
}

func TestDropAndChange(t *testing.T) { // P20.7
	log := "log " + text(refuted)
	plays(t, session(over, log, "drop 0", "drop 6", "drop -1", "drop 1099511627776", `change 0 ""`, `change 6 "x"`, "check"), "problem 1 1", "lines 5", "no line", "no line", "no line", "no line", "no line", "no line", "unsat")
	plays(t, session(over, log, `change 2 "f 2"`, "check", `change 2 "f 1"`, "check", `change 4 "conclusion NONE"`, "check"), "problem 1 1", "lines 5", "lines 5", "fault 2 2 101", "lines 5", "unsat", "lines 5", "none")
	plays(t, session(over, log, "drop 1", "check", "drop 4", "drop 4", "drop 3", "check"), "problem 1 1", "lines 5", "lines 4", "fault 2 1 100", "lines 3", "no line", "lines 2", "fault 2 1 100")
	plays(t, session(over, log, "drop 3", "check"), "problem 1 1", "lines 5", "lines 4", "fault 2 3 100")
	plays(t, session(over, log, `change 5 ""`, "check", "drop 5", `change 4 "x"`, "check"), "problem 1 1", "lines 5", "lines 5", "fault 2 6 100", "lines 4", "lines 4", "fault 2 4 80")
	plays(t, "drop 1\nchange 1 \"x\"", "no line", "no line")
}

func TestChangeLaysLineFeeds(t *testing.T) { // P20.7: its lines, each ended by a line feed
	log := "log " + text(refuted)
	plays(t, session(over, log, `change 2 "f 1\x0a* x"`, "check", "drop 3", "check"), "problem 1 1", "lines 5", "lines 6", "unsat", "lines 5", "unsat")
	plays(t, `log "a"`+"\n"+`change 1 ""`+"\n"+`change 1 "\x0a"`+"\n"+`change 2 "\x0a\x0a"`+"\ndrop 4\ndrop 4", "lines 1", "lines 1", "lines 2", "lines 4", "lines 3", "no line")
	plays(t, `log "a\x0ab"`+"\n"+`change 2 "b\x0a"`+"\ndrop 3\ndrop 3", "lines 2", "lines 3", "lines 2", "no line")
	plays(t, `log "a\x0ab"`+"\n"+`change 1 "c\x0ad\x0ae"`+"\ndrop 4\ndrop 4", "lines 2", "lines 4", "lines 3", "no line")
}

func TestMadeLogsCantBeSpoiled(t *testing.T) { // P20.7: ahead of whether there is such a line
	for _, act := range []string{"solve", "all", "trim"} {
		for _, spoil := range []string{"drop 1", "drop 0", "drop -3", "drop 99999", `change 1 "x"`, `change 0 "x"`} {
			told, err := script.Play(session(over, "log "+text(refuted), act, spoil, "check"))
			if lines := strings.Split(told, "\n"); err != nil || lines[3] != "made" || lines[4] == "made" || strings.HasPrefix(lines[4], "fault") {
				t.Errorf("%s, %s: %q, %v", act, spoil, told, err)
			}
		}
	}
}

func TestShow(t *testing.T) { // P20.7
	plays(t, session("  var x 0 3 \n\n# \"\\\nlin <=  4 2 x\n\tminimize 1 x", "show"), "problem 1 1", `text "var x 0 3\x0alin <= 4 2 x\x0aminimize 1 x\x0a"`)
	plays(t, session(wrong, "show"), "fault 1 2 53", "fault 1 2 53")
	plays(t, session(too, "show"), "problem 3 0", "text "+text(too))
	plays(t, "show", "fault 1 1 59")
}

func TestHolds(t *testing.T) { // P20.7
	plays(t, session(least, "holds 3", "holds 2", "holds 1", "holds 4", "holds", "holds 3 3", "holds -1"), "problem 1 1", "solution 3", "solution 2", "no solution", "no solution", "no solution", "no solution", "no solution")
	plays(t, session(pairs, "holds 1 2", "holds 2 1", "holds 1 1", "holds 1 1099511627776"), "problem 2 1", "solution", "solution", "no solution", "no solution")
	plays(t, session("var x -2 2\nminimize -3 x 3 x\n", "holds -2"), "problem 1 0", "solution 0")
	plays(t, session("var x -2 2\nminimize 3 x\n", "holds -2", "holds 0"), "problem 1 0", "solution -6", "solution 0")
	plays(t, session(wrong, "holds 1"), "fault 1 2 53", "fault 1 2 53")
	plays(t, session(too, "holds 60 0 7"), "problem 3 0", "solution")
}

func TestPlayTellsParsesFault(t *testing.T) { // P20.6: and nothing is done
	fails(t, "check\nx", 2, api.ErrScriptWord)
	fails(t, session(least, "solve", "solve", "drop"), 4, api.ErrScriptEnd)
	fails(t, "show\n\ntry x", 3, api.ErrScriptNumber)
}

func TestNothingIsThereAtFirst(t *testing.T) { // P20.6: an empty problem, an empty log that was given
	for _, act := range []string{"check", "show", "solve", "all", "core", "try 5", "holds", "trim"} {
		plays(t, act, "fault 1 1 59")
	}
	plays(t, "drop 1", "no line")
	plays(t, "change 1 \"a\"", "no line")
	plays(t, seven+seven, "problem 1 1", "best 2 2", "best 2 2", "made", "solution 3", "lines 1", "fault 2 1 80", "problem 1 1", "best 2 2", "best 2 2", "made", "solution 3", "lines 1", "fault 2 1 80")
}
