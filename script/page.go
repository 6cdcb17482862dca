package script

import (
	"slices"
	"strconv"
	"strings"

	"hallmark/api"
)

// page: a line that is being written.
type page struct{ line strings.Builder }

// write tells the line that an act has, if it has one.
func write(a api.Act) string {
	p := &page{}
	for _, f := range forms() {
		if f.kind == a.Kind {
			p.words(f.word)
			f.write(p, a)
		}
	}
	return p.line.String() + "\n"
}

// says tells whether a line is read as just that act.
func says(line string, a api.Act) bool {
	acts, err := Parse(line)
	return err == nil && len(acts) == 1 && same(acts[0], a)
}

func same(a, b api.Act) bool {
	return a.Kind == b.Kind && a.N == b.N && a.Text == b.Text && slices.Equal(a.List, b.List)
}

func (p *page) words(list ...string) *page {
	for _, w := range list {
		if p.line.Len() > 0 {
			p.line.WriteByte(' ')
		}
		p.line.WriteString(w)
	}
	return p
}

func (p *page) numbers(list ...int) *page {
	for _, n := range list {
		p.words(strconv.Itoa(n))
	}
	return p
}

func (p *page) nothing(api.Act) {}

func (p *page) text(a api.Act) { p.words(quoted(a.Text)) }

func (p *page) number(a api.Act) { p.numbers(a.N) }

func (p *page) list(a api.Act) { p.numbers(a.List...) }

func (p *page) numberAndText(a api.Act) { p.numbers(a.N).text(a) }

func (p *page) numberAndList(a api.Act) { p.numbers(a.N).list(a) }
