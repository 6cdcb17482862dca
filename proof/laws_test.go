package proof_test

import (
	"errors"
	"fmt"
	"math"
	"slices"
	"strings"
	"testing"
	"unsafe"

	"hallmark/api"
	"hallmark/proof"
)

// gap: blanks and tabs, at least so many.
func (s source) gap(least int) string {
	out := ""
	for len(out) < least || s.Intn(3) == 0 {
		out += string(" \t"[s.Intn(2)])
	}
	return out
}

// spaced writes a line with blanks and tabs wherever they may be.
func (s source) spaced(words []string) string {
	line := s.gap(0)
	for i, w := range words {
		line += w + s.gap(min(1, len(words)-1-i))
	}
	return line
}

// odd: a word from anywhere.
func (s source) odd() string {
	words := strings.Fields("0 1 -1 7 -0 01 +1 x x1 ~x1 x0 ~x0 x01 ~~x1 x1073741824 ~x1073741825 99999999999999999999 - + * d s w ** *x : ; :: >= > = id ids f pol rup e soli solx del output NONE conclusion UNSAT SAT BOUNDS ALL BEST end pseudo-Boolean proof version 2.0 1.0 number id .id \r \xff \x00 \n")
	return words[s.Intn(len(words))]
}

// spoiled: words with a few changed, put in, left out.
func (s source) spoiled(words []string) []string {
	out := slices.Clone(words)
	for range 1 + s.Intn(2) {
		if len(out) == 0 {
			return []string{s.odd()}
		}
		i := s.Intn(len(out))
		switch s.Intn(6) {
		case 0, 1:
			out[i] = s.odd()
		case 2:
			out = slices.Insert(out, i+s.Intn(2), s.odd())
		case 3:
			out = slices.Delete(out, i, i+1)
		case 4:
			out = out[:i+1]
		case 5:
			k := s.Intn(len(out))
			out[i], out[k] = out[k], out[i]
		}
	}
	return out
}

func TestStepsThereAndBack(t *testing.T) { // P8.3, P8.5, P8.7
	s := newSource()
	kinds := map[[2]int]int{}
	for range 20000 {
		step := s.step()
		words := written(step)
		prints(t, step, strings.Join(words, " "))
		reads(t, s.spaced(words), step)
		kinds[[2]int{step.Kind, step.Ends}]++
	}
	if len(kinds) != 11+5 {
		t.Errorf("%v: too few kinds to tell", kinds)
	}
}

func TestFaultsByPlaces(t *testing.T) { // P8.2, P8.3, P8.4: against a reading from place to place
	s := newSource()
	all := places()
	seen := map[api.Errno]int{}
	for range 60000 {
		line := s.spaced(s.spoiled(written(s.step())))
		want := expected(all, line)
		step, e := proof.Parse(line)
		if e != want || e != api.OK && !alike(step, api.Step{}) {
			t.Fatalf("Parse(%q) = %+v, %d; want %d", line, step, e, want)
		}
		seen[e]++
		if e != api.OK {
			continue
		}
		again, f := proof.Print(step)
		if remark := step.Kind == api.StepNote; f != api.OK || !remark && again != strings.Join(wordsOf(line), " ") || remark && again != "*" {
			t.Fatalf("Print(%+v) = %q, %d, from %q", step, again, f, line)
		}
	}
	for _, e := range []api.Errno{api.OK, api.ErrProofWord, api.ErrProofNumber, api.ErrProofEnd} {
		if seen[e] < 2000 {
			t.Errorf("error %d only %d times: too few to tell", e, seen[e])
		}
	}
}

func TestFewWords(t *testing.T) { // P8.3, P8.4: all lines of up to three words of the grammar's, behind what may come first
	words := []string{"0", "1", "-2", "x1", "~x2", "+", "*", "d", "s", "w", ":", ";", ">=", "id", "NONE", "UNSAT", "SAT", "BOUNDS", "ALL", "proof", "version", "2.0", "y"}
	heads := []string{"", "f", "pol", "pol 3", "pol x3", "rup", "rup 1 x1", "rup >= 1 ;", "e", "e 3", "e 3 >= 1", "soli", "solx", "del", "del id", "*", "output", "conclusion", "conclusion UNSAT", "conclusion BOUNDS 1", "conclusion BOUNDS 1 : 1",
		"conclusion ALL 1", "end", "end pseudo-Boolean", "pseudo-Boolean", "pseudo-Boolean proof version"}
	all := places()
	for _, head := range heads {
		for n := range len(words) * len(words) * len(words) {
			a, b, c := words[n%len(words)], words[n/len(words)%len(words)], words[n/len(words)/len(words)]
			lines := []string{head + " " + a + " " + b + " " + c}
			if n < len(words)*len(words) {
				lines = append(lines, head+" "+a+" "+b, head+" "+a, head)
			}
			for _, line := range lines {
				if _, e := proof.Parse(line); e != expected(all, line) {
					t.Fatalf("Parse(%q): %d, want %d", line, e, expected(all, line))
				}
			}
		}
	}
}

// strange: a step with anything in its fields.
func (s source) strange() api.Step {
	text := func() string {
		return []string{"", "0", "1", "-1", "x1", "1 2", "1 ", ";", "1 x1", ">= 1 ;", "+", "3 *", "\n", "f 3", "99999999999999999999"}[s.Intn(15)]
	}
	whole := func() int {
		return []int{0, 0, 1, -1, 2, 3, 5, 7, 12, 13, api.MaxLit, api.MaxLit + 1, math.MinInt, math.MaxInt}[s.Intn(14)]
	}
	step := s.step()
	for range s.Intn(3) {
		switch s.Intn(9) {
		case 0:
			step.Kind = whole()
		case 1:
			step.N = text()
		case 2:
			step.Ops = some(s.Intn(3), func() api.Op { return api.Op{Kind: s.Intn(9), N: text(), L: whole()} })
		case 3:
			step.Row.Pieces = some(s.Intn(3), func() api.Piece { return api.Piece{C: text(), L: whole()} })
		case 4:
			step.Row.Degree = text()
		case 5:
			step.Lits = some(s.Intn(3), whole)
		case 6:
			step.Ids = some(s.Intn(3), text)
		case 7:
			step.Ends = s.Intn(8)
		case 8:
			step.Low, step.High = text(), text()
		}
	}
	return step
}

// hasLine: by P8.5, field by field.
func hasLine(s api.Step) bool {
	number := func(n string) bool { return wholes.MatchString(n) }
	count := func(n string) bool { return number(n) && n[0] != '-' }
	id := func(n string) bool { return count(n) && n != "0" }
	is := func(l int) bool { return l != 0 && l >= -api.MaxLit && l <= api.MaxLit }
	every := func(n int, ok func(i int) bool) bool {
		for i := range n {
			if !ok(i) {
				return false
			}
		}
		return true
	}
	ids := func(least, most int) bool {
		return len(s.Ids) >= least && len(s.Ids) <= most && every(len(s.Ids), func(i int) bool { return id(s.Ids[i]) })
	}
	lits := every(len(s.Lits), func(i int) bool { return is(s.Lits[i]) })
	row := number(s.Row.Degree) && every(len(s.Row.Pieces), func(i int) bool { return number(s.Row.Pieces[i].C) && is(s.Row.Pieces[i].L) })
	ops := len(s.Ops) > 0 && every(len(s.Ops), func(i int) bool {
		switch o := s.Ops[i]; o.Kind {
		case api.OpRow, api.OpTimes, api.OpDiv:
			return id(o.N) && o.L == 0
		case api.OpLit:
			return is(o.L) && o.N == ""
		case api.OpWeaken:
			return is(o.L) && o.L > 0 && o.N == ""
		case api.OpAdd, api.OpSaturate:
			return o.N == "" && o.L == 0
		}
		return false
	})
	rest := s
	rest.Kind = 0
	right := false
	switch s.Kind {
	case api.StepHead, api.StepNote, api.StepOutput, api.StepLast:
		right = true
	case api.StepCount:
		right, rest.N = count(s.N), ""
	case api.StepPol:
		right, rest.Ops = ops, nil
	case api.StepRup:
		right, rest.Row, rest.Ids = row && ids(0, math.MaxInt), api.Row{}, nil
	case api.StepSame:
		right, rest.Row, rest.Ids = row && ids(1, 1), api.Row{}, nil
	case api.StepSoli, api.StepSolx:
		right, rest.Lits = lits, nil
	case api.StepDel:
		right, rest.Ids = ids(1, math.MaxInt), nil
	case api.StepEnds:
		rest.Ends = 0
		switch s.Ends {
		case api.None, api.Sat:
			right = true
		case api.Unsat:
			right, rest.Ids = ids(0, 1), nil
		case api.Bounds:
			right, rest.Ids, rest.Low, rest.High = ids(0, 1) && number(s.Low) && number(s.High), nil, "", ""
		case api.All:
			right, rest.Ids, rest.High = ids(1, 1) && count(s.High), nil, ""
		}
	}
	return right && alike(rest, api.Step{})
}

func TestWhichStepsHaveALine(t *testing.T) { // P8.5: against a telling field by field
	s := newSource()
	seen := map[bool]int{}
	for range 60000 {
		step := s.strange()
		has := hasLine(step)
		seen[has]++
		if !has {
			refuses(t, step)
			continue
		}
		line := strings.Join(written(step), " ")
		prints(t, step, line)
		reads(t, line, step)
	}
	if seen[true] < 20000 || seen[false] < 20000 {
		t.Errorf("%v: too few to tell", seen)
	}
}

func TestLogsThereAndBack(t *testing.T) { // P8.6, P8.7
	s := newSource()
	for range 2000 {
		l := some(s.Intn(12), s.step)
		log, err := proof.Write(l)
		want, spaced := "", ""
		for _, step := range l {
			words := written(step)
			want += strings.Join(words, " ") + "\n"
			if step.Kind == api.StepNote && s.Intn(2) == 0 {
				words = [][]string{nil, {"*", "pol", "\xff"}}[s.Intn(2)]
			}
			spaced += s.spaced(words) + "\n"
		}
		if err != nil || log != want {
			t.Fatalf("Write(%+v) = %q, %v; want %q", l, log, err, want)
		}
		readsLog(t, log, l)
		readsLog(t, strings.TrimSuffix(log, "\n"), l)
		readsLog(t, spaced, l)
	}
}

func TestWhatIsReadIsWritten(t *testing.T) { // P8.7, P8.8: a log's lines by themselves, and its faults
	s := newSource()
	right := 0
	for range 6000 {
		var lines []string
		for range s.Intn(6) {
			words := written(s.step())
			if s.Intn(6) == 0 {
				words = s.spoiled(words)
			}
			lines = append(lines, strings.ReplaceAll(s.spaced(words), "\n", ""))
		}
		log := strings.Join(lines, "\n") + "\n"
		l, err := proof.Read(log)
		at := slices.IndexFunc(lines, func(line string) bool { return expected(places(), line) != api.OK })
		if at >= 0 {
			failsLog(t, log, at+1, expected(places(), lines[at]))
			failsLog(t, strings.Join(lines[:at+1], "\n"), at+1, expected(places(), lines[at]))
			failsLog(t, strings.Repeat("\n", at)+lines[at]+"\npol\nx", at+1, expected(places(), lines[at]))
			continue
		}
		if err != nil || len(l) != max(1, len(lines)) {
			t.Fatalf("Read(%q) = %+v, %v", log, l, err)
		}
		for i, line := range lines {
			reads(t, line, l[i])
		}
		again, err := proof.Write(l)
		if err != nil || len(again) > len(log)+strings.Count(log, "\n") {
			t.Fatalf("Write of %q: %q, %v", log, again, err)
		}
		readsLog(t, again, l)
		right++
	}
	if right < 2000 {
		t.Errorf("%d right ones: too few to tell", right)
	}
}

func TestWriteTellsTheFirst(t *testing.T) { // P8.6
	s := newSource()
	for range 3000 {
		l := some(s.Intn(6), s.strange)
		log, err := proof.Write(l)
		at := slices.IndexFunc(l, func(step api.Step) bool { return !hasLine(step) })
		var f *api.Fault
		if at < 0 && err != nil || at >= 0 && (log != "" || !errors.As(err, &f) || *f != (api.Fault{In: api.InLog, Line: at + 1, Err: api.ErrProofStep})) {
			t.Fatalf("Write(%+v) = %q, %v", l, log, err)
		}
	}
}

// filled: a list with spare room behind it, all of it the same.
func filled[T any](list []T, more T) []T {
	long := append(slices.Clone(list), more, more, more)
	return long[:len(list)]
}

func TestMemory(t *testing.T) { // rule 3: what is handed in stays, spare room too; answers share nothing
	s := newSource()
	for range 500 {
		step := s.step()
		mark := api.Step{Ops: filled(step.Ops, api.Op{Kind: 99}), Lits: filled(step.Lits, 99), Ids: filled(step.Ids, "99"), Row: api.Row{Pieces: filled(step.Row.Pieces, api.Piece{C: "99"})}}
		full := step
		full.Ops, full.Lits, full.Ids, full.Row.Pieces = mark.Ops, mark.Lits, mark.Ids, mark.Row.Pieces
		log := filled([]api.Step{full}, api.Step{Kind: 99})
		room := func() string {
			return fmt.Sprint(mark.Ops[:cap(mark.Ops)], mark.Lits[:cap(mark.Lits)], mark.Ids[:cap(mark.Ids)], mark.Row.Pieces[:cap(mark.Row.Pieces)], len(log[:cap(log)]), log[:2][1].Kind)
		}
		ahead := room()
		line, _ := proof.Print(full)
		text, _ := proof.Write(log)
		if room() != ahead {
			t.Fatalf("%+v: %s, and was %s", step, room(), ahead)
		}
		a, _ := proof.Parse(line)
		b, _ := proof.Parse(line)
		l, _ := proof.Read(text + text)
		overwrite(&a)
		overwrite(&l[0])
		l = append(l[:1], api.Step{Kind: 99})
		if again, _ := proof.Read(text + text); !alike(b, step) || !alike(again[0], step) || !alike(again[1], step) {
			t.Fatalf("%+v: %+v, %+v", step, b, again)
		}
	}
	lines := proof.Lines("a\nb\n")
	_ = append(lines[:1], "c")
	if again := proof.Lines("a\nb\n"); !slices.Equal(again, []string{"a", "b"}) {
		t.Errorf("%q", again)
	}
}

// overwrite fills all that a step's lists have, and their spare room, one behind the other; none may touch another.
func overwrite(s *api.Step) {
	for i := range s.Ops[:cap(s.Ops)] {
		s.Ops[:cap(s.Ops)][i] = api.Op{Kind: 77, N: "77", L: 77}
	}
	for i := range s.Lits[:cap(s.Lits)] {
		s.Lits[:cap(s.Lits)][i] = 77
	}
	for i := range s.Ids[:cap(s.Ids)] {
		s.Ids[:cap(s.Ids)][i] = "77"
	}
	for i := range s.Row.Pieces[:cap(s.Row.Pieces)] {
		s.Row.Pieces[:cap(s.Row.Pieces)][i] = api.Piece{C: "77", L: 77}
	}
}

func TestReadStepsShareNothing(t *testing.T) { // rule 3: two steps of one log
	const log = "pol 1 2 + x1 w\nrup 1 x1 2 x2 3 x3 >= 1 ; 1 2 3\ndel id 1 2 3\nsoli x1 x2 x3\n"
	l, err := proof.Read(log + log)
	again, _ := proof.Read(log)
	if err != nil {
		t.Fatal(err)
	}
	for i := range 4 {
		overwrite(&l[i])
	}
	for i := range 4 {
		if !alike(l[4+i], again[i]) {
			t.Errorf("%+v", l[4+i])
		}
	}
}

func TestAnswersKeepNothingOfTheText(t *testing.T) { // rule 3: no byte of a text is handed out again
	within := func(part, whole string) bool {
		at, from := uintptr(unsafe.Pointer(unsafe.StringData(part))), uintptr(unsafe.Pointer(unsafe.StringData(whole)))
		return part != "" && at >= from && at < from+uintptr(len(whole))
	}
	for _, k := range known() {
		log := strings.Repeat(k.line+"\n", 2)
		l, _ := proof.Read(log)
		s, _ := proof.Parse(log[:len(k.line)])
		var parts []string
		for _, step := range append(l, s) {
			parts = append(parts, step.N, step.Row.Degree, step.Low, step.High)
			parts = append(parts, step.Ids...)
			for _, o := range step.Ops {
				parts = append(parts, o.N)
			}
			for _, p := range step.Row.Pieces {
				parts = append(parts, p.C)
			}
		}
		for _, part := range append(parts, proof.Lines(log)...) {
			if within(part, log) {
				t.Errorf("%q: %q is a piece of it", log, part)
			}
		}
	}
}

// FuzzParse: every line ends in a step or in the fault that P8.3 says.
func FuzzParse(f *testing.F) { // P8.3, P8.5, rule 1
	for _, k := range known() {
		f.Add(k.line)
	}
	f.Add("rup 1 x1 >= 1 ; \xff")
	f.Fuzz(func(t *testing.T, line string) {
		s, e := proof.Parse(line)
		if want := expected(places(), line); e != want {
			t.Fatalf("Parse(%q): %d, want %d", line, e, want)
		}
		if e != api.OK {
			return
		}
		again, g := proof.Print(s)
		if g != api.OK || s.Kind != api.StepNote && again != strings.Join(wordsOf(line), " ") {
			t.Fatalf("%q: %+v, printed %q, %d", line, s, again, g)
		}
	})
}

func TestBytesFromAnywhere(t *testing.T) { // rule 1: all bytes
	s := newSource()
	all := places()
	for range 30000 {
		const bytes = "pol rup f e soli 0 1 -2 x1 ~x2 + * d s w : ; >= id \n\t \r\x00\xff\xc3"
		line := ""
		for range s.Intn(30) {
			line += string(bytes[s.Intn(len(bytes))])
		}
		if _, e := proof.Parse(line); e != expected(all, line) {
			t.Fatalf("Parse(%q): %d, want %d", line, e, expected(all, line))
		}
		l, err := proof.Read(line)
		if err != nil {
			continue
		}
		if log, err := proof.Write(l); err != nil || len(proof.Lines(log)) != len(proof.Lines(line)) {
			t.Fatalf("%q: %q, %v", line, log, err)
		}
	}
}
