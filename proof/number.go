package proof

import (
	"strings"

	"hallmark/api"
	"hallmark/big"
)

func (l *line) number(word string) string { return l.whole(word, -1) }

func (l *line) count(word string) string { return l.whole(word, 0) }

func (l *line) id(word string) string { return l.whole(word, 1) }

// whole takes a number whose sign is at least so much. It is copied, so that
// the step keeps nothing of the text.
func (l *line) whole(word string, sign int) string {
	n, e := big.Parse(word)
	if e != api.OK || n.Sign() < sign {
		l.fail(api.ErrProofNumber)
	}
	return strings.Clone(word)
}

func (l *line) literal(word string) int {
	lit, ok := literalOf(word)
	if !ok {
		l.fail(api.ErrProofNumber)
	}
	return lit
}

// literalOf tells the literal that a word is.
func literalOf(word string) (int, bool) {
	variable, negated := strings.CutPrefix(word, "~")
	digits, ok := strings.CutPrefix(variable, "x")
	if !ok {
		return 0, false
	}
	n, _ := big.Parse(digits)
	lit, _ := n.Small() // 0, if it is no number, or too great for an int: no literal's number either
	if lit < 1 || lit > api.MaxLit {
		return 0, false
	}
	if negated {
		lit = -lit
	}
	return lit, true
}
