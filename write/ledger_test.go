package write_test

import (
	"fmt"
	"math"
	"regexp"
	"strconv"
	"strings"

	"hallmark/api"
)

// ledger: a log by the words of chapters 8 and 16, and by no package of the program.
type ledger struct {
	lines      []string
	next       int
	goal, over bool
}

func newLedger(rows int, goal bool) *ledger {
	if rows < 0 {
		rows = 0
	}
	return &ledger{[]string{"pseudo-Boolean proof version 2.0", fmt.Sprint("f ", rows)}, rows + 1, goal, false}
}

func (l *ledger) text() string { return strings.Join(l.lines, "\n") + "\n" }

// say takes a call: what it answers.
func (l *ledger) say(c call) (int, api.Errno) {
	if l.over {
		return 0, api.ErrWriteOver
	}
	line, ok := "", false
	if c.step == api.StepEnds {
		line, ok = claim(c)
	} else {
		line, ok = words(c)
	}
	if !ok {
		return 0, api.ErrWriteRow
	}
	if c.step == api.StepEnds {
		l.lines = append(l.lines, "output NONE", line, "end pseudo-Boolean proof")
		l.over = true
		return 0, api.OK
	}
	l.lines = append(l.lines, line)
	if c.step == api.StepRup || c.step == api.StepPol || c.step == api.StepSolx || c.step == api.StepSoli && l.goal {
		l.next++
		return l.next - 1, api.OK
	}
	return 0, api.OK
}

// claim: a conclusion's line, if it has one.
func claim(c call) (string, bool) {
	by := ""
	if c.id > 0 {
		by = fmt.Sprint(" : ", c.id)
	}
	switch c.kind {
	case api.None:
		return "conclusion NONE", c.id == 0 && c.low == 0 && c.high == 0
	case api.Unsat:
		return "conclusion UNSAT" + by, c.id >= 0 && c.low == 0 && c.high == 0
	case api.Sat:
		return "conclusion SAT", c.id == 0 && c.low == 0 && c.high == 0
	case api.Bounds:
		return fmt.Sprintf("conclusion BOUNDS %d%s %d", c.low, by, c.high), c.id >= 0
	case api.All:
		return fmt.Sprintf("conclusion ALL %d%s", c.high, by), c.id > 0 && c.low == 0 && c.high >= 0
	}
	return "", false
}

// words: another step's line, if it has one.
func words(c call) (string, bool) {
	switch c.step {
	case api.StepRup:
		r, ok := rowWords(c.row)
		i, all := idWords(c.list...)
		return "rup" + r + i, ok && all
	case api.StepSame:
		r, ok := rowWords(c.row)
		i, is := idWords(c.id)
		return "e" + i + r, ok && is
	case api.StepDel:
		i, all := idWords(c.list...)
		return "del id" + i, all && len(c.list) > 0
	case api.StepSoli:
		l, ok := litWords(c.list...)
		return "soli" + l, ok
	case api.StepSolx:
		l, ok := litWords(c.list...)
		return "solx" + l, ok
	case api.StepPol:
		return opWords(c.ops)
	}
	return "*", true
}

func idWords(ids ...int) (string, bool) {
	line, ok := "", true
	for _, id := range ids {
		line += " " + strconv.Itoa(id)
		ok = ok && id > 0
	}
	return line, ok
}

func litWords(lits ...int) (string, bool) {
	line, ok := "", true
	for _, l := range lits {
		switch {
		case l > 0 && l <= 1<<30:
			line += fmt.Sprint(" x", l)
		case l < 0 && l >= -1<<30:
			line += fmt.Sprint(" ~x", -l)
		default:
			ok = false
		}
	}
	return line, ok
}

var whole = regexp.MustCompile(`\A(0|-?[1-9][0-9]*)\z`)

var above = regexp.MustCompile(`\A[1-9][0-9]*\z`)

func rowWords(r api.Row) (string, bool) {
	line, ok := "", whole.MatchString(r.Degree)
	for _, p := range r.Pieces {
		l, is := litWords(p.L)
		line += " " + p.C + l
		ok = ok && is && whole.MatchString(p.C)
	}
	return line + " >= " + r.Degree + " ;", ok
}

func opWords(ops []api.Op) (string, bool) {
	line, ok := "pol", len(ops) > 0
	for _, o := range ops {
		l, is := litWords(o.L)
		bare, lit := o.N == "" && o.L == 0, o.N == "" && is
		number := above.MatchString(o.N) && o.L == 0
		switch o.Kind {
		case api.OpRow:
			line, ok = line+" "+o.N, ok && number
		case api.OpTimes:
			line, ok = line+" "+o.N+" *", ok && number
		case api.OpDiv:
			line, ok = line+" "+o.N+" d", ok && number
		case api.OpLit:
			line, ok = line+l, ok && lit
		case api.OpWeaken:
			line, ok = line+l+" w", ok && lit && o.L > 0
		case api.OpAdd:
			line, ok = line+" +", ok && bare
		case api.OpSaturate:
			line, ok = line+" s", ok && bare
		default:
			ok = false
		}
	}
	return line, ok
}

// far: numbers that hardly anything takes.
func far() []int {
	return []int{0, -1, math.MinInt, math.MaxInt, math.MinInt32, math.MaxInt32, api.MaxLit, -api.MaxLit, api.MaxLit + 1, -api.MaxLit - 1}
}
