package text

import (
	"strings"

	"hallmark/api"
)

func (l *line) number() int { return l.value(l.next()) }

func (l *line) numbers() []int { return list(l, l.value) }

func (l *line) value(word string) int {
	n := l.whole(word)
	if n < -api.MaxValue || n > api.MaxValue {
		l.fail(api.ErrModelNumber)
	}
	return n
}

// bounds takes a variable's; it leaves it to layer 4 which may be. The first
// one may be, if it may be both.
func (l *line) bounds() (int, int) {
	const name = "x"
	lo := l.whole(l.next())
	if !isRight(api.Var{Name: name, Lo: lo, Hi: lo}) {
		l.fail(api.ErrModelBounds)
	}
	hi := l.whole(l.next())
	if !isRight(api.Var{Name: name, Lo: lo, Hi: hi}) {
		l.fail(api.ErrModelBounds)
	}
	return lo, hi
}

func (l *line) sum() []api.Term { return list(l, l.term) }

func (l *line) term(word string) api.Term {
	c := l.whole(word)
	if c == 0 || c < -api.MaxCoef || c > api.MaxCoef {
		l.fail(api.ErrModelCoef)
	}
	return api.Term{C: c, X: l.name()}
}

func (l *line) whole(word string) int {
	n, ok := wholeOf(word)
	if !ok {
		l.fail(api.ErrTextNumber)
	}
	return n
}

// wholeOf tells the number that a word is; in place of one that is too great
// for everything it tells another such one, which fits an int.
func wholeOf(word string) (int, bool) {
	digits, below := strings.CutPrefix(word, "-")
	if digits == "" || digits[0] == '0' && word != "0" {
		return 0, false
	}
	n := 0
	for i := range len(digits) {
		if digits[i] < '0' || digits[i] > '9' {
			return 0, false
		}
		n = min(10*n+int(digits[i]-'0'), api.MaxValue+1)
	}
	if below {
		n = -n
	}
	return n, true
}
