package script

import (
	"strings"

	"hallmark/api"
)

// line: a line that is being read, piece by piece. Behind its first fault no
// piece comes any more, so that whatever is read then changes nothing.
type line struct {
	rest  string
	fault api.Errno
}

// piece: a word, or what a quoted text says.
type piece struct {
	says   string
	quoted bool
}

const (
	blanks = " \t"
	quote  = '"'
	remark = '#'
	ends   = " \t#\"" // what ends a word
)

// act reads the whole line.
func (l *line) act() api.Act {
	first := l.next()
	for _, f := range forms() {
		if first == (piece{says: f.word}) {
			a := api.Act{Kind: f.kind}
			f.read(l, &a)
			l.end()
			return a
		}
	}
	l.fail(api.ErrScriptWord)
	return api.Act{}
}

// fail keeps the first fault.
func (l *line) fail(e api.Errno) {
	if l.fault == api.OK {
		l.fault = e
	}
}

// more tells whether anything is left.
func (l *line) more() bool {
	l.rest = strings.TrimLeft(l.rest, blanks)
	return l.fault == api.OK && l.rest != "" && l.rest[0] != remark
}

// take takes the next piece, if there is one. A quoted text that isn't right
// is a fault at once, since it can't stand anywhere.
func (l *line) take() (piece, bool) {
	if !l.more() {
		return piece{}, false
	}
	if l.rest[0] == quote {
		says, rest, ok := unquoted(l.rest[1:])
		if !ok {
			l.fail(api.ErrScriptWord)
		}
		l.rest = rest
		return piece{says, true}, ok
	}
	end := strings.IndexAny(l.rest, ends)
	if end < 0 {
		end = len(l.rest)
	}
	word := l.rest[:end]
	l.rest = l.rest[end:]
	return piece{says: word}, true
}

// next takes the piece that must follow.
func (l *line) next() piece {
	p, ok := l.take()
	if !ok {
		l.fail(api.ErrScriptEnd)
	}
	return p
}

// end asks that nothing follows.
func (l *line) end() {
	if _, more := l.take(); more {
		l.fail(api.ErrScriptWord)
	}
}

func (l *line) nothing(*api.Act) {}

func (l *line) text(a *api.Act) {
	p := l.next()
	if !p.quoted {
		l.fail(api.ErrScriptWord)
	}
	a.Text = p.says
}

func (l *line) number(a *api.Act) { a.N = l.whole(l.next()) }

func (l *line) list(a *api.Act) {
	for p, ok := l.take(); ok; p, ok = l.take() {
		a.List = append(a.List, l.whole(p))
	}
}

func (l *line) numberAndText(a *api.Act) {
	l.number(a)
	l.text(a)
}

func (l *line) numberAndList(a *api.Act) {
	l.number(a)
	l.list(a)
}

func (l *line) whole(p piece) int {
	n, ok := wholeOf(p.says)
	if p.quoted || !ok {
		l.fail(api.ErrScriptNumber)
	}
	return n
}

const most = 1 << 40 // the greatest number, and the opposite of the least one

// wholeOf tells the number that a word is, if it is one.
func wholeOf(word string) (int, bool) {
	digits, below := strings.CutPrefix(word, "-")
	if digits == "" || digits[0] == '0' && word != "0" {
		return 0, false
	}
	n := 0
	for i := range len(digits) {
		if digits[i] < '0' || digits[i] > '9' {
			return 0, false
		}
		n = min(10*n+int(digits[i]-'0'), most+1) // one that is too great stays so, and fits an int
	}
	if below {
		return -n, n <= most
	}
	return n, n <= most
}
