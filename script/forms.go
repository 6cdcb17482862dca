package script

import "hallmark/api"

// form: a kind of acts: the word that its line begins with, how what follows
// is read and written, and what the act does in a session.
type form struct {
	kind  int
	word  string
	read  func(*line, *api.Act)
	write func(*page, api.Act)
	play  func(*session, api.Act) (string, error)
}

// forms makes the table of acts.
func forms() []form {
	return []form{
		{api.ActProblem, "problem", (*line).text, (*page).text, (*session).pose},
		{api.ActLog, "log", (*line).text, (*page).text, (*session).give},
		{api.ActSolve, "solve", (*line).list, (*page).list, (*session).solve},
		{api.ActTry, "try", (*line).numberAndList, (*page).numberAndList, (*session).try},
		{api.ActCheck, "check", (*line).nothing, (*page).nothing, (*session).check},
		{api.ActTrim, "trim", (*line).nothing, (*page).nothing, (*session).trim},
		{api.ActDrop, "drop", (*line).number, (*page).number, (*session).drop},
		{api.ActChange, "change", (*line).numberAndText, (*page).numberAndText, (*session).change},
		{api.ActShow, "show", (*line).nothing, (*page).nothing, (*session).show},
		{api.ActAll, "all", (*line).list, (*page).list, (*session).all},
		{api.ActCore, "core", (*line).nothing, (*page).nothing, (*session).core},
		{api.ActHolds, "holds", (*line).list, (*page).list, (*session).holds},
	}
}
