package hall

// interval: its ends, and what lies within.
type interval struct {
	ends
	within bits
	places int // how many they are
}

func (i interval) isOverfull() bool { return i.places > i.numbers() }

// isCrowded: full, or overfull.
func (i interval) isCrowded() bool { return i.places >= i.numbers() }

// with tells the interval with a group within.
func (i interval) with(g group) interval {
	i.within = i.within.with(g.x)
	i.places += g.places
	return i
}

// crowdedFrom tells the crowded intervals from a number on, by where they end.
// Left out are those that have the same places within as a narrower one: they
// have more numbers for them, so that none is full, and if one is overfull, the
// narrower one is too, and stands ahead.
func crowdedFrom(from int, byEnd []group) []interval {
	var out []interval
	var narrower bits
	i := interval{ends: ends{from: from}}
	for k, g := range byEnd {
		i.to = g.to
		if g.from >= from {
			i = i.with(g)
		}
		if k+1 < len(byEnd) && byEnd[k+1].to == g.to {
			continue
		}
		if i.within != narrower && i.isCrowded() {
			out = append(out, i)
		}
		narrower = i.within
	}
	return out
}
