package prop

import (
	"hallmark/api"
	"hallmark/dom"
)

// stays: what stays of a variable: the values within the bounds of which every
// test is true. It is an interval, if there is no test.
type stays struct {
	bounds
	tests []func(v int) bool
}

func (s stays) isInterval() bool { return len(s.tests) == 0 }

func (s stays) has(v int) bool {
	for _, is := range s.tests {
		if !is(v) {
			return false
		}
	}
	return s.within(v)
}

// cuts tells what goes of the variable x, which has these values.
func (s stays) cuts(x int, values []int) []api.Cut {
	var kept []int
	var gone []api.Cut
	for _, v := range values {
		if s.has(v) {
			kept = append(kept, v)
		} else {
			gone = append(gone, api.Cut{Kind: api.Not, X: x, V: v})
		}
	}
	if s.isInterval() && len(kept) > 0 {
		return ends(x, values, kept)
	}
	return gone
}

// ends tells what goes, if all that is kept stands side by side in values.
func ends(x int, values, kept []int) []api.Cut {
	var out []api.Cut
	if v := kept[0]; v != values[0] {
		out = append(out, api.Cut{Kind: api.AtLeast, X: x, V: v})
	}
	if v := kept[len(kept)-1]; v != values[len(values)-1] {
		out = append(out, api.Cut{Kind: api.AtMost, X: x, V: v})
	}
	return out
}

// left: what a rule leaves of a store's variables.
type left struct {
	*dom.Store
	of []stays
}

// all leaves everything.
func all(d *dom.Store) *left {
	l := &left{d, make([]stays, d.Vars())}
	for x := range l.of {
		l.of[x].bounds = anything()
	}
	return l
}

// keep leaves of x no more than an interval.
func (l *left) keep(x int, b bounds) {
	s := &l.of[x]
	s.bounds = s.meet(b)
}

// keepSome leaves of x no more than some values.
func (l *left) keepSome(x int, is func(v int) bool) {
	l.of[x].tests = append(l.of[x].tests, is)
}

// one tells a variable's value, if it has just one.
func (l *left) one(x int) (int, bool) {
	if l.Size(x) > 1 {
		return 0, false
	}
	return l.Lo(x), true
}

// cuts passes over what can't have lost anything, as most calls take little out.
func (l *left) cuts() []api.Cut {
	var out []api.Cut
	for x, s := range l.of {
		if !s.isInterval() || !s.within(l.Lo(x)) || !s.within(l.Hi(x)) {
			out = append(out, s.cuts(x, l.Values(x))...)
		}
	}
	return out
}
