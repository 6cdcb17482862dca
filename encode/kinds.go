package encode

import "hallmark/api"

// kind: what a kind of constraints lays.
type kind struct {
	lay func(l *layer, c api.Con, at int)
}

// allKinds makes the table of kinds, each at its number's place.
func allKinds() [api.Count + 1]kind {
	return [...]kind{
		api.Lin:     {layLin},
		api.Ne:      {layNe},
		api.AllDiff: {layAllDiff},
		api.Element: {layElement},
		api.Max:     {layMax},
		api.Min:     {layMin},
		api.Reif:    {layReif},
		api.Table:   {layTable},
		api.Count:   {layCount},
	}
}

func layLin(l *layer, c api.Con, _ int) {
	l.compare(l.sum(c.Terms), c.Op, c.K)
}

func layNe(l *layer, c api.Con, _ int) {
	x, y := l.m.Vars[c.X], l.m.Vars[c.Y]
	for v := max(x.Lo, y.Lo+c.K); v <= min(x.Hi, y.Hi+c.K); v++ {
		l.clause(append(l.others(c.X, v), l.others(c.Y, v-c.K)...)...)
	}
}

func layAllDiff(l *layer, c api.Con, _ int) {
	for _, v := range l.shared(c.Xs) {
		var s sum
		for _, x := range c.Xs {
			if is := l.is(x, v); is.what == api.Lit {
				s.add(1, is.not())
			}
		}
		l.atLeast(s, len(s.parts)-1)
	}
}

func layElement(l *layer, c api.Con, _ int) {
	n := len(c.Table)
	l.clause(l.least(c.X, 0))
	l.clause(l.least(c.X, n).not())
	x := l.m.Vars[c.X]
	for v := max(x.Lo, 0); v <= min(x.Hi, n-1); v++ {
		t := c.Table[v]
		l.clause(append(l.others(c.X, v), l.least(c.Y, t))...)
		l.clause(append(l.others(c.X, v), l.least(c.Y, t+1).not())...)
	}
}

func layMax(l *layer, c api.Con, _ int) {
	for _, k := range l.within(append([]int{c.Y}, c.Xs...)) {
		y := l.least(c.Y, k)
		last := []saying{y.not()}
		for _, x := range c.Xs {
			l.clause(l.least(x, k).not(), y)
			last = append(last, l.least(x, k))
		}
		l.clause(last...)
	}
}

func layMin(l *layer, c api.Con, _ int) {
	for _, k := range l.within(append([]int{c.Y}, c.Xs...)) {
		y := l.least(c.Y, k)
		last := []saying{y}
		for _, x := range c.Xs {
			l.clause(y.not(), l.least(x, k))
			last = append(last, l.least(x, k).not())
		}
		l.clause(last...)
	}
}

// layReif lets what each row asks go where X says that it isn't asked.
func layReif(l *layer, c api.Con, _ int) {
	l.clause(l.least(c.X, 0))
	l.clause(l.least(c.X, 2).not())
	least, greatest := l.ends(c.Terms)
	over, under := max(greatest-c.K, 0), max(c.K+1-least, 0)
	most, low := l.sum(c.Terms), l.sum(c.Terms)
	most.add(over, l.least(c.X, 1))
	low.add(under, l.least(c.X, 1))
	l.atMost(most, c.K+over)
	l.atLeast(low, c.K+1)
}

func layTable(l *layer, c api.Con, at int) {
	var one []saying
	for r := range c.Rows {
		one = append(one, l.row(at, r))
	}
	l.clause(one...)
	for r, row := range c.Rows {
		for i, x := range c.Xs {
			l.clause(one[r].not(), l.least(x, row[i]))
			l.clause(one[r].not(), l.least(x, row[i]+1).not())
		}
	}
}

func layCount(l *layer, c api.Con, _ int) {
	var s sum
	for _, x := range c.Xs {
		s.add(1, l.is(x, c.V))
	}
	l.compare(s, c.Op, c.K)
}
