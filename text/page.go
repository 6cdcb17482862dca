package text

import (
	"strconv"
	"strings"

	"hallmark/api"
)

// page: a text that is being written.
type page struct {
	vars []api.Var
	text strings.Builder
}

func (p *page) line(s saying) {
	f := forms()[s.Kind]
	p.text.WriteString(f.word)
	f.write(p, s)
	p.text.WriteByte('\n')
}

// word writes one that isn't the line's first.
func (p *page) word(s string) *page {
	p.text.WriteByte(' ')
	p.text.WriteString(s)
	return p
}

func (p *page) names(xs ...int) *page {
	for _, x := range xs {
		p.word(p.vars[x].Name)
	}
	return p
}

func (p *page) numbers(list ...int) *page {
	for _, n := range list {
		p.word(strconv.Itoa(n))
	}
	return p
}

func (p *page) sum(terms []api.Term) {
	for _, t := range terms {
		p.numbers(t.C).names(t.X)
	}
}

func (p *page) rows(rows [][]int) {
	for _, row := range rows {
		p.word(colon).numbers(row...)
	}
}
