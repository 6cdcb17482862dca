package text

import (
	"iter"
	"slices"
	"strings"

	"hallmark/api"
	"hallmark/model"
)

// line: a line that is being read, word by word. Behind its first fault no
// word comes any more, so that whatever is read then changes nothing.
type line struct {
	vars  []api.Var // those of the lines ahead
	rest  string
	fault api.Errno
}

// read lays what a line says to what the lines ahead say.
func read(m *api.Model, text string) api.Errno {
	l := &line{vars: m.Vars, rest: text}
	for first := range l.words() {
		if strings.HasPrefix(first, "#") {
			break
		}
		if s := l.say(first, *m); l.fault == api.OK {
			lay(m, s)
		}
	}
	return l.fault
}

func lay(m *api.Model, s saying) {
	switch s.Kind {
	case aVar:
		m.Vars = append(m.Vars, s.Var)
	case aGoal:
		m.HasGoal, m.Goal = true, s.Terms
	default:
		m.Cons = append(m.Cons, s.Con)
	}
}

// say reads what follows the first word.
func (l *line) say(first string, m api.Model) saying {
	for kind, f := range forms() {
		if f.word != first {
			continue
		}
		s := saying{Con: api.Con{Kind: kind}}
		l.fail(oneMore(kind, m))
		f.read(l, &s)
		return s
	}
	l.fail(api.ErrTextWord)
	return saying{}
}

// oneMore tells what is wrong with one more line of a kind.
func oneMore(kind int, m api.Model) api.Errno {
	switch {
	case kind == aVar && len(m.Vars) == api.MaxVars:
		return api.ErrModelVars
	case kind == aGoal && m.HasGoal:
		return api.ErrTextGoal
	case kind <= api.Count && len(m.Cons) == api.MaxCons:
		return api.ErrModelCons
	}
	return api.OK
}

// words gives the words that are left one by one; one that was given is left
// no more, also where they are gone through anew meanwhile.
func (l *line) words() iter.Seq[string] {
	const blanks = " \t"
	return func(yield func(string) bool) {
		for l.fault == api.OK {
			rest := strings.TrimLeft(l.rest, blanks)
			if rest == "" {
				return
			}
			end := strings.IndexAny(rest, blanks)
			if end < 0 {
				end = len(rest)
			}
			l.rest = rest[end:]
			if !yield(rest[:end]) {
				return
			}
		}
	}
}

// fail keeps the first fault.
func (l *line) fail(e api.Errno) {
	if l.fault == api.OK {
		l.fault = e
	}
}

// next takes the word that must follow.
func (l *line) next() string {
	for word := range l.words() {
		return word
	}
	l.fail(api.ErrTextShort)
	return ""
}

// end asks that no word follows.
func (l *line) end() {
	for range l.words() {
		l.fail(api.ErrTextRest)
	}
}

func (l *line) must(word, wanted string) {
	if word != wanted {
		l.fail(api.ErrTextWord)
	}
}

func (l *line) op() int {
	word := l.next()
	for op := api.Le; op <= api.Ge; op++ {
		if word == opWords[op] {
			return op
		}
	}
	l.fail(api.ErrTextWord)
	return 0
}

// newName copies the name, so that the problem keeps nothing of the text.
func (l *line) newName() string {
	word := l.next()
	if !isName(word) {
		l.fail(api.ErrTextName)
	}
	if l.place(word) >= 0 {
		l.fail(api.ErrTextTwice)
	}
	return strings.Clone(word)
}

func (l *line) name() int { return l.known(l.next()) }

func (l *line) names() []int { return list(l, l.known) }

// known tells the place of the variable that has a name.
func (l *line) known(word string) int {
	at := l.place(word)
	if !isName(word) {
		l.fail(api.ErrTextName)
	}
	if at < 0 {
		l.fail(api.ErrTextUnknown)
	}
	return at
}

func (l *line) place(name string) int {
	return slices.IndexFunc(l.vars, func(v api.Var) bool { return v.Name == name })
}

// isName leaves it to layer 4 what a name is.
func isName(word string) bool { return isRight(api.Var{Name: word}) }

func isRight(v api.Var) bool {
	_, e := model.Check(api.Model{Vars: []api.Var{v}})
	return e == api.OK
}

// list reads words up to the line's end, each by read: one at least.
func list[T any](l *line, read func(word string) T) []T {
	all := []T{read(l.next())}
	for word := range l.words() {
		if len(all) == api.MaxTerms {
			l.fail(api.ErrModelMany) // whatever the word is
			break
		}
		all = append(all, read(word))
	}
	return all
}

// columns takes a Table's names, and the colon behind them.
func (l *line) columns() []int {
	xs := []int{l.name()}
	for word := range l.words() {
		if word == colon {
			return xs
		}
		if len(xs) == api.MaxCols {
			l.fail(api.ErrModelMany)
			break
		}
		xs = append(xs, l.known(word))
	}
	l.fail(api.ErrTextShort)
	return xs
}

// rows takes a Table's rows from behind the first colon on.
func (l *line) rows(columns int) [][]int {
	all := [][]int{l.row(l.next(), columns)}
	for word := range l.words() {
		l.must(word, colon)
		first := l.next()
		if len(all) == api.MaxTerms {
			l.fail(api.ErrModelMany)
		}
		all = append(all, l.row(first, columns))
	}
	return all
}

func (l *line) row(first string, columns int) []int {
	row := []int{l.value(first)}
	for len(row) < columns {
		row = append(row, l.number())
	}
	return row
}
