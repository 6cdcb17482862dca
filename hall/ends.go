package hall

// ends: all numbers from one on, up to another one.
type ends struct{ from, to int }

func (e ends) numbers() int { return e.to - e.from + 1 }
