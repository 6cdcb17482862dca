package write_test

import (
	"fmt"
	"slices"
	"strings"
	"testing"

	"hallmark/api"
	"hallmark/proof"
	"hallmark/write"
)

// call: one call of a log, and what it is given.
type call struct {
	step      int // its kind; of the conclusion: End
	row       api.Row
	ops       []api.Op
	list      []int // literals, ids, hints
	kind, id  int
	low, high int
}

func rup(r api.Row, hints ...int) call { return call{step: api.StepRup, row: r, list: hints} }

func pol(ops ...api.Op) call { return call{step: api.StepPol, ops: ops} }

func soli(lits ...int) call { return call{step: api.StepSoli, list: lits} }

func solx(lits ...int) call { return call{step: api.StepSolx, list: lits} }

func same(id int, r api.Row) call { return call{step: api.StepSame, id: id, row: r} }

func del(ids ...int) call { return call{step: api.StepDel, list: ids} }

func note() call { return call{step: api.StepNote} }

func end(kind, id, low, high int) call {
	return call{step: api.StepEnds, kind: kind, id: id, low: low, high: high}
}

// of: the row of an id, as an operation.
func of(id string) api.Op { return api.Op{Kind: api.OpRow, N: id} }

func clause(lits ...int) api.Row {
	r := api.Row{Degree: "1"}
	for _, l := range lits {
		r.Pieces = append(r.Pieces, api.Piece{C: "1", L: l})
	}
	return r
}

// on makes the call.
func (c call) on(w *write.Log) (int, api.Errno) {
	switch c.step {
	case api.StepRup:
		return w.Rup(c.row, c.list)
	case api.StepPol:
		return w.Pol(c.ops)
	case api.StepSoli:
		return w.Soli(c.list)
	case api.StepSolx:
		return w.Solx(c.list)
	case api.StepSame:
		return 0, w.Same(c.id, c.row)
	case api.StepDel:
		return 0, w.Del(c.list)
	case api.StepNote:
		return 0, w.Note()
	}
	return 0, w.End(c.kind, c.id, c.low, c.high)
}

// standing: all that a log tells.
func standing(w *write.Log) string {
	return fmt.Sprintf("%d %s%s", w.Next(), w.Text(), plain(w.Steps()))
}

// plain: a nil list is like an empty one.
func plain(steps []api.Step) string {
	out := ""
	for _, s := range steps {
		out += fmt.Sprintf("%d %q %#v %#v %q %v %q %d %q %q\n", s.Kind, s.N, append([]api.Op{}, s.Ops...), append([]api.Piece{}, s.Row.Pieces...), s.Row.Degree, s.Lits, s.Ids, s.Ends, s.Low, s.High)
	}
	return out
}

// say makes a call, and asks what it answers; what is refused changes nothing.
func say(t *testing.T, w *write.Log, c call, id int, e api.Errno) {
	t.Helper()
	was := standing(w)
	if got, f := c.on(w); got != id || f != e {
		t.Errorf("%+v: %d, %d; want %d, %d", c, got, f, id, e)
	}
	if e != api.OK && standing(w) != was {
		t.Errorf("%+v is refused: %s, and was %s", c, standing(w), was)
	}
}

// reads asks that a log has the head and these lines, and that its steps are theirs.
func reads(t *testing.T, w *write.Log, lines ...string) {
	t.Helper()
	text := strings.Join(slices.Concat([]string{"pseudo-Boolean proof version 2.0"}, lines), "\n") + "\n"
	if w.Text() != text {
		t.Errorf("%s; want %s", w.Text(), text)
	}
	steps, err := proof.Read(text)
	if err != nil || plain(w.Steps()) != plain(steps) {
		t.Errorf("%s: %s, %v", text, plain(w.Steps()), err)
	}
}
