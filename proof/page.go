package proof

import (
	"slices"
	"strconv"
	"strings"

	"hallmark/api"
)

// page: a line that is being written.
type page struct{ text strings.Builder }

// write tells the line that a step has, if it has one.
func write(s api.Step) string {
	p := &page{}
	p.pick(forms(), s.Kind, s)
	return p.text.String()
}

func (p *page) pick(all []form, kind int, s api.Step) {
	for _, f := range all {
		if f.kind == kind {
			p.words(f.words)
			f.write(p, s)
		}
	}
}

func (p *page) words(list ...string) *page {
	for _, w := range list {
		if p.text.Len() > 0 {
			p.text.WriteByte(' ')
		}
		p.text.WriteString(w)
	}
	return p
}

// literals leaves the sign of a negated one out as a byte: the number may be
// one that has no opposite.
func (p *page) literals(list ...int) *page {
	for _, lit := range list {
		digits, negated := strings.CutPrefix(strconv.Itoa(lit), "-")
		if negated {
			p.words("~x" + digits)
		} else {
			p.words("x" + digits)
		}
	}
	return p
}

func (p *page) nothing(api.Step) {}

func (p *page) size(s api.Step) { p.words(s.N) }

func (p *page) rup(s api.Step) { p.row(s.Row).words(s.Ids...) }

func (p *page) equal(s api.Step) { p.words(s.Ids...).row(s.Row) }

func (p *page) lits(s api.Step) { p.literals(s.Lits...) }

func (p *page) del(s api.Step) { p.words(s.Ids...) }

func (p *page) row(r api.Row) *page {
	for _, piece := range r.Pieces {
		p.words(piece.C).literals(piece.L)
	}
	return p.words(reaches, r.Degree, closed)
}

func (p *page) ends(s api.Step) { p.pick(claims(), s.Ends, s) }

func (p *page) unsat(s api.Step) { p.leaning(s.Ids) }

func (p *page) bounds(s api.Step) { p.words(s.Low).leaning(s.Ids).words(s.High) }

func (p *page) all(s api.Step) { p.words(s.High).leaning(s.Ids) }

func (p *page) leaning(ids []string) *page {
	if len(ids) > 0 {
		p.words(by).words(ids...)
	}
	return p
}

func same(a, b api.Step) bool {
	return a.Kind == b.Kind && a.N == b.N && a.Ends == b.Ends && a.Low == b.Low && a.High == b.High &&
		a.Row.Degree == b.Row.Degree && slices.Equal(a.Row.Pieces, b.Row.Pieces) &&
		slices.Equal(a.Ops, b.Ops) && slices.Equal(a.Lits, b.Lits) && slices.Equal(a.Ids, b.Ids)
}
