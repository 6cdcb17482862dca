package text_test

import (
	"math/big"
	"regexp"
	"slices"
	"strings"

	"hallmark/api"
)

// place: what P5.1 and P5.2 ask of a word by where it stands in its line.
type place int

const (
	opPlace place = iota
	atMost        // `<=`
	newName
	aName
	nameOrColon
	low
	high
	coef
	number
	onlyColon
	tooMany // whatever it is
	rest    // nothing may be here
)

// placeOf tells, of the words ahead of the n-th being right, what the n-th one (from 0 on) is to be, and whether the line may end ahead of it.
func placeOf(words []string, n int) (place, bool) {
	switch words[0] {
	case "var":
		return []place{newName, low, high, rest}[min(n, 4)-1], n >= 4
	case "ne":
		return []place{aName, aName, number, rest}[min(n, 4)-1], n >= 4
	case "lin":
		return inList(n, []place{opPlace, number}, coef, aName)
	case "reif":
		return inList(n, []place{aName, atMost, number}, coef, aName)
	case "minimize":
		return inList(n, nil, coef, aName)
	case "alldiff":
		return inList(n, nil, aName)
	case "max", "min":
		return inList(n, []place{aName}, aName)
	case "element":
		return inList(n, []place{aName, aName}, number)
	case "count":
		return inList(n, []place{opPlace, number, number}, aName)
	}
	return inTable(words, n)
}

// inList: behind the first places come the others over and over, at most MaxTerms times.
func inList(n int, first []place, over ...place) (place, bool) {
	n--
	if n < len(first) {
		return first[n], false
	}
	n -= len(first)
	if n == api.MaxTerms*len(over) {
		return tooMany, true
	}
	return over[n%len(over)], n > 0 && n%len(over) == 0
}

func inTable(words []string, n int) (place, bool) {
	columns := slices.Index(words[:n], ":") - 1
	switch {
	case n == 1:
		return aName, false
	case columns < 0 && n == 1+api.MaxCols:
		if n < len(words) && words[n] == ":" {
			return onlyColon, false
		}
		return tooMany, false
	case columns < 0:
		return nameOrColon, false
	}
	switch row, at := (n-1-columns)/(columns+1), (n-1-columns)%(columns+1); {
	case at == 0:
		return onlyColon, true
	case at == 1 && row == api.MaxTerms:
		return tooMany, false
	}
	return number, false
}

var (
	nameForm   = regexp.MustCompile(`^[a-zA-Z_][a-zA-Z0-9_]{0,15}$`)
	numberForm = regexp.MustCompile(`^(0|-?[1-9][0-9]*)$`)
)

func nameFault(word string) api.Errno {
	if strings.Contains(word, "\n") || !nameForm.MatchString(word) {
		return api.ErrTextName
	}
	return api.OK
}

// beyond tells whether a number is below or above what may be.
func beyond(word string, least, greatest int) bool {
	n, _ := new(big.Int).SetString(word, 10)
	return n.Cmp(big.NewInt(int64(least))) < 0 || n.Cmp(big.NewInt(int64(greatest))) > 0
}

// wordFault tells what is wrong with the n-th word of a line.
func wordFault(words []string, n int, names []string) api.Errno {
	word := words[n]
	what, _ := placeOf(words, n)
	choose := func(wrong bool, e api.Errno) api.Errno {
		if wrong {
			return e
		}
		return api.OK
	}
	switch what {
	case opPlace:
		return choose(!slices.Contains([]string{"<=", "=", ">="}, word), api.ErrTextWord)
	case atMost:
		return choose(word != "<=", api.ErrTextWord)
	case onlyColon:
		return choose(word != ":", api.ErrTextWord)
	case tooMany:
		return api.ErrModelMany
	case rest:
		return api.ErrTextRest
	case newName:
		return max(nameFault(word), choose(nameFault(word) == api.OK && slices.Contains(names, word), api.ErrTextTwice))
	case nameOrColon, aName:
		if what == nameOrColon && word == ":" {
			return api.OK
		}
		return max(nameFault(word), choose(nameFault(word) == api.OK && !slices.Contains(names, word), api.ErrTextUnknown))
	}
	if !numberForm.MatchString(word) {
		return api.ErrTextNumber
	}
	switch what {
	case coef:
		return choose(word == "0" || beyond(word, -api.MaxCoef, api.MaxCoef), api.ErrModelCoef)
	case low:
		return choose(beyond(word, -api.MaxValue, api.MaxValue), api.ErrModelBounds)
	case high:
		lo, _ := new(big.Int).SetString(words[n-1], 10)
		least := int(lo.Int64())
		return choose(beyond(word, -api.MaxValue, api.MaxValue) || beyond(word, least, least+api.MaxDomain-1), api.ErrModelBounds)
	}
	return choose(beyond(word, -api.MaxValue, api.MaxValue), api.ErrModelNumber)
}

// wordsOf cuts a line into its words.
func wordsOf(line string) []string {
	return slices.DeleteFunc(strings.Split(strings.ReplaceAll(line, "\t", " "), " "), func(w string) bool { return w == "" })
}

// expected tells a text's fault by P5.2; the zero one: none.
func expected(s string) api.Fault {
	fault := func(line int, e api.Errno) api.Fault { return api.Fault{In: api.InModel, Line: line, Err: e} }
	if len(s) > api.MaxModel {
		return fault(1, api.ErrTextLong)
	}
	var names []string
	cons, goals := 0, 0
	lines := strings.Split(s, "\n")
	for i, line := range lines {
		words := wordsOf(line)
		if len(words) == 0 || words[0][0] == '#' {
			continue
		}
		switch first := words[0]; {
		case !slices.Contains(strings.Fields("var lin ne alldiff element max min reif table count minimize"), first):
			return fault(i+1, api.ErrTextWord)
		case first == "var" && len(names) == 32:
			return fault(i+1, api.ErrModelVars)
		case first == "minimize" && goals == 1:
			return fault(i+1, api.ErrTextGoal)
		case first != "var" && first != "minimize" && cons == 64:
			return fault(i+1, api.ErrModelCons)
		}
		for n := 1; n < len(words); n++ {
			if e := wordFault(words, n, names); e != api.OK {
				return fault(i+1, e)
			}
		}
		if _, may := placeOf(words, len(words)); !may {
			return fault(i+1, api.ErrTextShort)
		}
		switch words[0] {
		case "var":
			names = append(names, words[1])
		case "minimize":
			goals++
		default:
			cons++
		}
	}
	if len(names) == 0 {
		return fault(len(lines), api.ErrTextEmpty)
	}
	return api.Fault{}
}
