package text

import "hallmark/api"

// Kinds of lines, beside those of constraints.
const (
	aVar = api.Count + 1 + iota
	aGoal
)

// saying: what a line says: a variable, a constraint or, as Terms, the goal.
// Kind is the line's.
type saying struct {
	api.Var
	api.Con
}

// form: a kind of lines: the first word, and what follows it.
type form struct {
	word  string
	read  func(l *line, s *saying)
	write func(p *page, s saying)
}

// forms makes the table of lines, each at its kind's place.
func forms() [aGoal + 1]form {
	readYXs := func(l *line, s *saying) { s.Y, s.Xs = l.name(), l.names() }
	writeYXs := func(p *page, s saying) { p.names(s.Y).names(s.Xs...) }
	return [...]form{
		aVar: {"var", readVar,
			func(p *page, s saying) { p.word(s.Name).numbers(s.Lo, s.Hi) }},
		api.Lin: {"lin",
			func(l *line, s *saying) { s.Op, s.K, s.Terms = l.op(), l.number(), l.sum() },
			func(p *page, s saying) { p.word(opWords[s.Op]).numbers(s.K).sum(s.Terms) }},
		api.Ne: {"ne", readNe,
			func(p *page, s saying) { p.names(s.X, s.Y).numbers(s.K) }},
		api.AllDiff: {"alldiff",
			func(l *line, s *saying) { s.Xs = l.names() },
			func(p *page, s saying) { p.names(s.Xs...) }},
		api.Element: {"element",
			func(l *line, s *saying) { s.X, s.Y, s.Table = l.name(), l.name(), l.numbers() },
			func(p *page, s saying) { p.names(s.X, s.Y).numbers(s.Table...) }},
		api.Max: {"max", readYXs, writeYXs},
		api.Min: {"min", readYXs, writeYXs},
		api.Reif: {"reif", readReif,
			func(p *page, s saying) { p.names(s.X).word(opWords[api.Le]).numbers(s.K).sum(s.Terms) }},
		api.Table: {"table", readTable,
			func(p *page, s saying) { p.names(s.Xs...).rows(s.Rows) }},
		api.Count: {"count",
			func(l *line, s *saying) { s.Op, s.K, s.V, s.Xs = l.op(), l.number(), l.number(), l.names() },
			func(p *page, s saying) { p.word(opWords[s.Op]).numbers(s.K, s.V).names(s.Xs...) }},
		aGoal: {"minimize",
			func(l *line, s *saying) { s.Terms = l.sum() },
			func(p *page, s saying) { p.sum(s.Terms) }},
	}
}

var opWords = [...]string{api.Le: "<=", api.Eq: "=", api.Ge: ">="}

// colon stands ahead of each of a Table's rows.
const colon = ":"

func readVar(l *line, s *saying) {
	s.Name = l.newName()
	s.Lo, s.Hi = l.bounds()
	l.end()
}

func readNe(l *line, s *saying) {
	s.X, s.Y, s.K = l.name(), l.name(), l.number()
	l.end()
}

func readReif(l *line, s *saying) {
	s.X = l.name()
	l.must(l.next(), opWords[api.Le])
	s.K, s.Terms = l.number(), l.sum()
}

func readTable(l *line, s *saying) {
	s.Xs = l.columns()
	s.Rows = l.rows(len(s.Xs))
}
