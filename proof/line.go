package proof

import (
	"slices"
	"strings"

	"hallmark/api"
)

// line: a line that is being read, word by word. Behind its first fault no
// word comes any more, so that whatever is read then changes nothing.
type line struct {
	rest  string
	fault error
}

const blanks = " \t"

// read tells a line's step, or the fault that it has.
func read(text string) (api.Step, error) {
	if strings.Trim(text, blanks) == "" {
		return api.Step{Kind: api.StepNote}, nil
	}
	l := &line{rest: text}
	var s api.Step
	s.Kind = l.pick(forms(), &s)
	l.end()
	return s, l.fault
}

// pick reads what has one of several forms, and tells its kind.
func (l *line) pick(all []form, s *api.Step) int {
	word := l.next()
	for _, f := range all {
		first, more, _ := strings.Cut(f.words, " ")
		if word != first {
			continue
		}
		for _, w := range strings.Fields(more) {
			l.must(w)
		}
		f.read(l, s)
		return f.kind
	}
	l.fail(api.ErrProofWord)
	return 0
}

// fail keeps the first fault.
func (l *line) fail(e api.Errno) {
	if l.fault == nil {
		l.fault = e
	}
}

// take takes the next word, if there is one.
func (l *line) take() (string, bool) {
	rest := strings.TrimLeft(l.rest, blanks)
	if l.fault != nil || rest == "" {
		return "", false
	}
	end := strings.IndexAny(rest, blanks)
	if end < 0 {
		end = len(rest)
	}
	l.rest = rest[end:]
	return rest[:end], true
}

// next takes the word that must follow.
func (l *line) next() string {
	word, ok := l.take()
	if !ok {
		l.fail(api.ErrProofEnd)
	}
	return word
}

func (l *line) must(wanted string) {
	if l.next() != wanted {
		l.fail(api.ErrProofWord)
	}
}

// end asks that no word follows.
func (l *line) end() {
	if _, more := l.take(); more {
		l.fail(api.ErrProofWord)
	}
}

// list reads words up to the line's end, each by read.
func list[T any](l *line, read func(word string) T) []T {
	var all []T
	for word, ok := l.take(); ok; word, ok = l.take() {
		all = append(all, read(word))
	}
	return all
}

func (l *line) nothing(*api.Step) {}

func (l *line) remark(*api.Step) { l.rest = "" }

func (l *line) size(s *api.Step) { s.N = l.count(l.next()) }

func (l *line) rup(s *api.Step) { s.Row, s.Ids = l.row(), list(l, l.id) }

func (l *line) equal(s *api.Step) { s.Ids, s.Row = []string{l.id(l.next())}, l.row() }

func (l *line) lits(s *api.Step) { s.Lits = list(l, l.literal) }

func (l *line) del(s *api.Step) {
	first := l.id(l.next())
	s.Ids = slices.Concat([]string{first}, list(l, l.id))
}

// row takes pieces, the degree and what closes it.
func (l *line) row() api.Row {
	var r api.Row
	for word := l.next(); word != reaches && l.fault == nil; word = l.next() {
		r.Pieces = append(r.Pieces, api.Piece{C: l.number(word), L: l.literal(l.next())})
	}
	r.Degree = l.number(l.next())
	l.must(closed)
	return r
}

func (l *line) ends(s *api.Step) { s.Ends = l.pick(claims(), s) }

func (l *line) unsat(s *api.Step) {
	if word, more := l.take(); more {
		s.Ids = l.leaning(word)
	}
}

func (l *line) bounds(s *api.Step) {
	s.Low = l.number(l.next())
	word := l.next()
	if word == by {
		s.Ids = l.leaning(word)
		word = l.next()
	}
	s.High = l.number(word)
}

func (l *line) all(s *api.Step) { s.High, s.Ids = l.count(l.next()), l.leaning(l.next()) }

// leaning takes the id on which a conclusion leans, behind the word that
// must stand ahead of it.
func (l *line) leaning(word string) []string {
	if word != by {
		l.fail(api.ErrProofWord)
	}
	return []string{l.id(l.next())}
}
