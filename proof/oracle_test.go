package proof_test

import (
	"regexp"
	"slices"
	"strings"

	"hallmark/api"
)

// place: what may stand at a place of a line: of each word that may, the next place; which error another word is; whether the line may end ahead of it.
type place struct {
	to   map[string]string
	e    api.Errno
	ends bool
}

const (
	aWord   = api.ErrProofWord
	aNumber = api.ErrProofNumber
)

// places: the chapter's grammar as places; a word with a dot ahead stands for all of its kind.
func places() map[string]place {
	row := func(name, behind string) map[string]place {
		return map[string]place{
			name:             {pairs(".number " + name + "-coef >= " + name + "-degree"), aNumber, false},
			name + "-coef":   {pairs(".literal " + name), aNumber, false},
			name + "-degree": {pairs(".number " + name + "-close"), aNumber, false},
			name + "-close":  {pairs("; " + behind), aWord, false},
		}
	}
	const ops = ".id pol-id .variable pol-variable .literal pol-behind + pol-behind s pol-behind"
	all := map[string]place{
		"line": {pairs("pseudo-Boolean head f size pol pol rup rup e e soli lits solx lits del del * remark output output conclusion ends end end"), aWord, true},
		"head": {pairs("proof head2"), aWord, false}, "head2": {pairs("version head3"), aWord, false}, "head3": {pairs("2.0 nothing"), aWord, false},
		"size": {pairs(".count nothing"), aNumber, false},
		"pol":  {pairs(ops), aWord, false}, "pol-behind": {pairs(ops), aWord, true},
		"pol-id": {pairs(ops + " * pol-behind d pol-behind"), aWord, true}, "pol-variable": {pairs(ops + " w pol-behind"), aWord, true},
		"e":    {pairs(".id same"), aNumber, false},
		"ids":  {pairs(".id ids"), aNumber, true},
		"lits": {pairs(".literal lits"), aNumber, true},
		"del":  {pairs("id del2"), aWord, false}, "del2": {pairs(".id ids"), aNumber, false},
		"output": {pairs("NONE nothing"), aWord, false},
		"ends":   {pairs("NONE nothing UNSAT unsat SAT nothing BOUNDS bounds ALL all"), aWord, false},
		"unsat":  {pairs(": id"), aWord, true}, "id": {pairs(".id nothing"), aNumber, false},
		"bounds": {pairs(".number bounds2"), aNumber, false}, "bounds2": {pairs(": bounds3 .number nothing"), aNumber, false},
		"bounds3": {pairs(".id bounds4"), aNumber, false}, "bounds4": {pairs(".number nothing"), aNumber, false},
		"all": {pairs(".count all2"), aNumber, false}, "all2": {pairs(": id"), aWord, false},
		"end": {pairs("pseudo-Boolean end2"), aWord, false}, "end2": {pairs("proof nothing"), aWord, false},
		"nothing": {nil, aWord, true},
	}
	for name, behind := range map[string]string{"rup": "ids", "same": "nothing"} {
		for k, v := range row(name, behind) {
			all[k] = v
		}
	}
	return all
}

// pairs: a dot ahead becomes a blank, which no word has.
func pairs(s string) map[string]string {
	m := map[string]string{}
	for two := range slices.Chunk(strings.Fields(s), 2) {
		m[kind(two[0])] = two[1]
	}
	return m
}

func kind(word string) string {
	if word[0] == '.' {
		return " " + word[1:]
	}
	return word
}

var (
	wholes   = regexp.MustCompile(`\A(0|-?[1-9][0-9]*)\z`)
	literals = regexp.MustCompile(`\A~?x([1-9][0-9]{0,8}|10[0-6][0-9]{7}|107[0-2][0-9]{6}|1073[0-6][0-9]{5}|10737[0-3][0-9]{4}|107374[0-0][0-9]{3}|1073741[0-7][0-9]{2}|10737418[0-1][0-9]|107374182[0-4])\z`)
)

// kindsOf: of which kinds a word is, the narrowest first.
func kindsOf(word string) []string {
	var kinds []string
	if wholes.MatchString(word) {
		kinds = append(kinds, " number")
		if word[0] != '-' {
			kinds = append(kinds, " count")
		}
		if word[0] != '-' && word != "0" {
			kinds = append(kinds, " id")
		}
	}
	if literals.MatchString(word) {
		if word[0] == 'x' {
			kinds = append(kinds, " variable")
		}
		kinds = append(kinds, " literal")
	}
	return kinds
}

// expected: the error of a line, by going from place to place.
func expected(all map[string]place, line string) api.Errno {
	at := "line"
	for _, word := range wordsOf(line) {
		p := all[at]
		if at == "remark" {
			return api.OK
		}
		next := ""
		for _, k := range append([]string{word}, kindsOf(word)...) {
			if to := p.to[k]; next == "" {
				next = to
			}
		}
		if next == "" && strings.HasPrefix(at, "pol") && wholes.MatchString(word) {
			return api.ErrProofNumber
		}
		if next == "" {
			return p.e
		}
		at = next
	}
	if at != "remark" && !all[at].ends {
		return api.ErrProofEnd
	}
	return api.OK
}

// wordsOf cuts a line into its words.
func wordsOf(line string) []string {
	return slices.DeleteFunc(strings.Split(strings.ReplaceAll(line, "\t", " "), " "), func(w string) bool { return w == "" })
}
