package proof

import "hallmark/api"

// Words that stand within lines.
const (
	reaches = ">=" // between a row's pieces and its degree
	closed  = ";"  // behind a row
	by      = ":"  // ahead of the id on which a conclusion leans
)

// form: a kind of lines, or of conclusions: the words that it begins with,
// and how what follows them is read and written.
type form struct {
	kind  int
	words string
	read  func(*line, *api.Step)
	write func(*page, api.Step)
}

// forms makes the table of lines.
func forms() []form {
	return []form{
		{api.StepHead, "pseudo-Boolean proof version 2.0", (*line).nothing, (*page).nothing},
		{api.StepCount, "f", (*line).size, (*page).size},
		{api.StepPol, "pol", (*line).ops, (*page).ops},
		{api.StepRup, "rup", (*line).rup, (*page).rup},
		{api.StepSame, "e", (*line).equal, (*page).equal},
		{api.StepSoli, "soli", (*line).lits, (*page).lits},
		{api.StepSolx, "solx", (*line).lits, (*page).lits},
		{api.StepDel, "del id", (*line).del, (*page).del},
		{api.StepNote, "*", (*line).remark, (*page).nothing},
		{api.StepOutput, "output NONE", (*line).nothing, (*page).nothing},
		{api.StepEnds, "conclusion", (*line).ends, (*page).ends},
		{api.StepLast, "end pseudo-Boolean proof", (*line).nothing, (*page).nothing},
	}
}

// claims makes the table of conclusions.
func claims() []form {
	return []form{
		{api.None, "NONE", (*line).nothing, (*page).nothing},
		{api.Unsat, "UNSAT", (*line).unsat, (*page).unsat},
		{api.Sat, "SAT", (*line).nothing, (*page).nothing},
		{api.Bounds, "BOUNDS", (*line).bounds, (*page).bounds},
		{api.All, "ALL", (*line).all, (*page).all},
	}
}
