package write

import (
	"hallmark/api"
	"hallmark/proof"
)

// lines: what was laid down. The text alone is kept: the steps are what it
// reads as, so that the two can't be at odds, and each answer is new memory.
type lines struct {
	text []byte
	over bool
}

// Steps tells its steps.
func (l *lines) Steps() []api.Step {
	steps, _ := proof.Read(l.Text()) // nothing else was laid down than what has lines
	return steps
}

// Text tells its text.
func (l *lines) Text() string { return string(l.text) }

// lay lays the lines of steps down, all of them or none.
func (l *lines) lay(steps ...api.Step) api.Errno {
	if l.over {
		return api.ErrWriteOver
	}
	text, err := proof.Write(steps)
	if err != nil {
		return api.ErrWriteRow
	}
	l.text = append(l.text, text...)
	return api.OK
}

// finish lays the last lines down.
func (l *lines) finish(steps ...api.Step) api.Errno {
	e := l.lay(steps...)
	if e == api.OK {
		l.over = true
	}
	return e
}
