package model

import (
	"slices"

	"hallmark/api"
)

// varFault tells what is wrong with a variable behind the others.
func varFault(v api.Var, ahead []api.Var) api.Errno {
	has := func(other api.Var) bool { return other.Name == v.Name }
	switch {
	case !isName(v.Name) || slices.ContainsFunc(ahead, has):
		return api.ErrModelName
	case !isNumber(v.Lo) || !isNumber(v.Hi) || v.Lo > v.Hi || v.Hi-v.Lo >= api.MaxDomain:
		return api.ErrModelBounds
	}
	return api.OK
}

func isName(s string) bool {
	if s == "" || len(s) > api.MaxName || isDigit(s[0]) {
		return false
	}
	for i := range len(s) {
		if !isLetter(s[i]) && !isDigit(s[i]) {
			return false
		}
	}
	return true
}

func isLetter(b byte) bool {
	return 'a' <= b && b <= 'z' || 'A' <= b && b <= 'Z' || b == '_'
}

func isDigit(b byte) bool { return '0' <= b && b <= '9' }

// conFault tells what is wrong with a constraint over so many variables.
func conFault(c api.Con, vars int) api.Errno {
	k, ok := kindOf(c.Kind)
	switch {
	case !ok || k.op && (c.Op < api.Le || c.Op > api.Ge):
		return api.ErrModelKind
	case k.own(c) != plainOf(c) || hasOtherLists(c, k.most):
		return api.ErrModelField
	case !areMany(c, k.most):
		return api.ErrModelMany
	case !arePlaces(c, vars):
		return api.ErrModelVar
	case !areCoefs(c.Terms):
		return api.ErrModelCoef
	case !isNumber(c.K) || !isNumber(c.V) || !areNumbers(c.Table) || !every(c.Rows, areNumbers):
		return api.ErrModelNumber
	}
	return api.OK
}

func goalFault(m api.Model) api.Errno {
	switch {
	case !m.HasGoal && len(m.Goal) > 0:
		return api.ErrModelField
	case !m.HasGoal:
		return api.OK
	case !isMany(len(m.Goal), api.MaxTerms):
		return api.ErrModelMany
	case !areTermPlaces(m.Goal, len(m.Vars)):
		return api.ErrModelVar
	case !areCoefs(m.Goal):
		return api.ErrModelCoef
	}
	return api.OK
}

func hasOtherLists(c api.Con, most lengths) bool {
	for list, n := range lengthsOf(c) {
		if n > 0 && most[list] == 0 {
			return true
		}
	}
	return false
}

// areMany leaves aside the lists that the kind hasn't.
func areMany(c api.Con, most lengths) bool {
	for list, n := range lengthsOf(c) {
		if most[list] > 0 && !isMany(n, most[list]) {
			return false
		}
	}
	return every(c.Rows, func(row []int) bool { return len(row) == len(c.Xs) })
}

func isMany(n, most int) bool { return 1 <= n && n <= most }

// arePlaces asks an X or a Y that the kind hasn't, too: it is 0, a place wherever there is a variable.
func arePlaces(c api.Con, vars int) bool {
	return isPlace(c.X, vars) && isPlace(c.Y, vars) && areTermPlaces(c.Terms, vars) &&
		every(c.Xs, func(x int) bool { return isPlace(x, vars) })
}

func areTermPlaces(terms []api.Term, vars int) bool {
	return every(terms, func(t api.Term) bool { return isPlace(t.X, vars) })
}

func isPlace(x, vars int) bool { return 0 <= x && x < vars }

func areCoefs(terms []api.Term) bool {
	return every(terms, func(t api.Term) bool { return t.C != 0 && -api.MaxCoef <= t.C && t.C <= api.MaxCoef })
}

func areNumbers(list []int) bool { return every(list, isNumber) }

func isNumber(n int) bool { return -api.MaxValue <= n && n <= api.MaxValue }

func every[T any](list []T, is func(T) bool) bool {
	for _, one := range list {
		if !is(one) {
			return false
		}
	}
	return true
}
