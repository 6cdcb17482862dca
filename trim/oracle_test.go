package trim_test

import (
	"fmt"
	"slices"
	"strconv"
	"testing"

	"hallmark/api"
	"hallmark/base"
	"hallmark/check"
	"hallmark/encode"
	"hallmark/model"
	"hallmark/order"
	"hallmark/pb"
	"hallmark/proof"
	"hallmark/trim"
	"hallmark/unit"
)

// replay: a right log gone through by the chapters' words: the id of the row
// that each of its steps adds (0: none), all rows, and the solutions told.
type replay struct {
	steps []api.Step
	ids   []int
	base  *base.Base
	laid  int
	told  [][]int
}

func replayed(t testing.TB, m api.Model, log string) replay {
	t.Helper()
	steps, err := proof.Read(log)
	if err != nil {
		t.Fatalf("%v of\n%s", err, log)
	}
	var rows []pb.Row
	plain, _ := encode.Rows(m)
	for _, r := range plain {
		rows = append(rows, formed(t, r))
	}
	out := replay{steps: steps, base: base.New(rows), laid: len(rows)}
	for _, s := range steps {
		id := 0
		switch s.Kind {
		case api.StepPol:
			r, e := out.base.Pol(s.Ops)
			if e != api.OK {
				t.Fatalf("%v of\n%s", e, log)
			}
			id = out.base.Add(r)
		case api.StepRup:
			id = out.base.Add(formed(t, s.Row))
		case api.StepSoli, api.StepSolx:
			values := toldBy(t, m, rows, s.Lits)
			out.told = append(out.told, values)
			if s.Kind == api.StepSolx {
				r, _ := encode.Unlike(m, values)
				id = out.base.Add(formed(t, r))
			} else if m.HasGoal {
				r, _ := encode.Less(m, model.Worth(m, values))
				id = out.base.Add(formed(t, r))
			}
		}
		out.ids = append(out.ids, id)
	}
	return out
}

func formed(t testing.TB, plain api.Row) pb.Row {
	t.Helper()
	r, e := pb.Of(plain)
	if e != api.OK {
		t.Fatalf("%+v: %v", plain, e)
	}
	return r
}

// toldBy: the solution that literals tell.
func toldBy(t testing.TB, m api.Model, rows []pb.Row, lits []int) []int {
	t.Helper()
	o, _ := order.New(m)
	set := make([]bool, o.Count())
	all, ok := unit.Run(rows, lits)
	for _, l := range all {
		set[max(l, -l)-1] = l > 0
	}
	values, _ := o.Values(set)
	if !ok || !model.Solution(m, values) {
		t.Fatalf("%+v: %v tell no solution", m, lits)
	}
	return values
}

// named: the ids that a step names.
func named(s api.Step) []string {
	var ids []string
	for _, op := range s.Ops {
		if op.Kind == api.OpRow {
			ids = append(ids, op.N)
		}
	}
	if s.Kind == api.StepRup || s.Kind == api.StepEnds {
		ids = append(ids, s.Ids...)
	}
	return ids
}

func (r replay) named() map[int]int {
	lines := map[int]int{} // of each id the last line that names it
	for i, s := range r.steps {
		for _, id := range named(s) {
			n, _ := strconv.Atoi(id)
			lines[n] = i
		}
	}
	return lines
}

// trimmed: what Trim answers.
type trimmed struct {
	log     string
	cons    []int
	verdict api.Verdict
}

// held trims a log that the checker takes, and holds the answer against P19.1
// to P19.5. What asks for going through all values isn't asked, if few isn't set.
func held(t testing.TB, p, log string, few bool) trimmed {
	t.Helper()
	m := read(t, p)
	v, err := check.Check(p, log)
	if err != nil {
		t.Fatalf("no right log: %v: %q\n%s", err, p, log)
	}
	cut, cons, err := trim.Trim(p, log)
	if err != nil {
		t.Fatalf("P19.1: %v: %q\n%s", err, p, log)
	}
	told := func(promise, form string, args ...any) {
		t.Helper()
		t.Fatalf("%s: %s: %q\n%s\n%v\n%s", promise, fmt.Sprintf(form, args...), p, log, cons, cut)
	}
	holdLog(p, log, cut, v, told)
	r := replayed(t, m, cut)
	holdNames(r, v.Kind, told)
	holdHints(r, told)
	holdOwners(m, r, cons, v.Kind, told)
	if few {
		holdLeaning(m, r, cons, v, told)
	}
	twice, again, err := trim.Trim(p, cut)
	if err != nil || twice != cut || !slices.Equal(again, cons) {
		told("P19.5", "trimmed twice: %v, %v\n%s", again, err, twice)
	}
	if same, again, err := trim.Trim(p, log); err != nil || same != cut || !slices.Equal(again, cons) {
		told("P19.5", "another answer: %v, %v\n%s", again, err, same)
	}
	return trimmed{cut, cons, v}
}

// failing tells which promise doesn't hold, and ends the test.
type failing func(promise, form string, args ...any)

func holdLog(p, log, cut string, v api.Verdict, told failing) {
	if w, err := check.Check(p, cut); err != nil || !sameVerdict(v, w) {
		told("P19.2, P22.6", "%+v, %v, want %+v", w, err, v)
	}
	if len(proof.Lines(cut)) > len(proof.Lines(log)) {
		told("P19.2, P22.6", "it has more lines")
	}
	steps, _ := proof.Read(cut)
	if again, err := proof.Write(steps); err != nil || again != cut {
		told("P19.2", "it isn't what proof.Write writes")
	}
	for _, s := range steps {
		if s.Kind == api.StepNote || s.Kind == api.StepDel || s.Kind == api.StepSame {
			told("P19.2", "a step of kind %d", s.Kind)
		}
	}
}

func sameVerdict(a, b api.Verdict) bool {
	return a.Kind == b.Kind && a.Low == b.Low && a.Worth == b.Worth && a.Count == b.Count && slices.Equal(a.Values, b.Values)
}

func holdNames(r replay, verdict int, told failing) {
	lines := r.named()
	last := -1
	for i, s := range r.steps {
		if s.Kind == api.StepSoli || s.Kind == api.StepSolx {
			last = i
		}
	}
	for i, s := range r.steps {
		free := false
		switch s.Kind {
		case api.StepPol, api.StepRup:
		case api.StepSoli, api.StepSolx:
			isLast := i == last && (verdict == api.Sat || verdict == api.Best || verdict == api.Bounds)
			free = isLast || verdict == api.All && s.Kind == api.StepSolx
		default:
			continue
		}
		if !free && (r.ids[i] == 0 || lines[r.ids[i]] <= i) {
			told("P19.3, P22.6", "nothing names the row of line %d", i+1)
		}
	}
}

func holdHints(r replay, told failing) {
	for i, s := range r.steps {
		if s.Kind != api.StepRup {
			continue
		}
		row, _ := pb.Of(s.Row)
		if shown, _ := r.base.RupOf(row, s.Ids); !shown {
			told("P19.3", "the hints of line %d don't show its row", i+1)
		}
		for at := range s.Ids {
			others := slices.Concat(s.Ids[:at], s.Ids[at+1:])
			if shown, _ := r.base.RupOf(row, others); shown {
				told("P19.3", "line %d doesn't need the hint %s", i+1, s.Ids[at])
			}
		}
	}
}

func holdOwners(m api.Model, r replay, cons []int, verdict int, told failing) {
	var want []int
	for id := range r.named() {
		if id <= r.laid && encode.Owner(m, id) >= 0 {
			want = append(want, encode.Owner(m, id))
		}
	}
	slices.Sort(want)
	want = slices.Compact(want)
	if !slices.Equal(cons, want) || (verdict == api.None || verdict == api.Sat) && len(cons) > 0 {
		told("P19.4", "constraints %v are named", want)
	}
}

// holdLeaning goes through the solutions of the problem that has the named
// constraints alone.
func holdLeaning(m api.Model, r replay, cons []int, v api.Verdict, told failing) {
	some := only(m, cons)
	count := 0
	for _, values := range solutions(some) {
		count++
		switch worth := model.Worth(m, values); {
		case v.Kind == api.Unsat, v.Kind == api.Best && worth < v.Worth, v.Kind == api.Bounds && worth < v.Low:
			told("P19.4, P22.6", "of constraints %v %v is a solution, of worth %d", cons, values, worth)
		case v.Kind == api.All && !slices.ContainsFunc(r.told, func(one []int) bool { return slices.Equal(one, values) }):
			told("P19.4", "of constraints %v %v is a solution that isn't told", cons, values)
		}
	}
	if v.Kind == api.All && count != len(r.told) {
		told("P19.4", "of constraints %v there are %d solutions", cons, count)
	}
}

// only: the problem that has some of a problem's constraints.
func only(m api.Model, cons []int) api.Model {
	some := model.Copy(m)
	some.Cons = nil
	for _, c := range cons {
		some.Cons = append(some.Cons, m.Cons[c])
	}
	return some
}

// solutions: all of them, by going through all values.
func solutions(m api.Model) [][]int {
	var all [][]int
	values := make([]int, len(m.Vars))
	var from func(x int)
	from = func(x int) {
		if x < len(values) {
			for v := m.Vars[x].Lo; v <= m.Vars[x].Hi; v++ {
				values[x] = v
				from(x + 1)
			}
			return
		}
		for _, c := range m.Cons {
			if !model.Holds(c, values) {
				return
			}
		}
		all = append(all, slices.Clone(values))
	}
	from(0)
	return all
}
