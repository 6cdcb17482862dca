package proof_test

import (
	"math"
	"strings"
	"testing"

	"hallmark/api"
	"hallmark/proof"
)

func TestPrintOfKnown(t *testing.T) { // P8.5
	for _, k := range known() {
		prints(t, k.step, k.line)
	}
	prints(t, api.Step{Kind: api.StepNote, Ops: []api.Op{}, Row: api.Row{Pieces: []api.Piece{}}, Lits: []int{}, Ids: []string{}}, "*")
	prints(t, api.Step{Kind: api.StepEnds, Ends: api.Unsat, Ids: []string{}}, "conclusion UNSAT")
}

// spoilers: each sets one field, to what isn't zero.
func spoilers() map[string]func(*api.Step) {
	return map[string]func(*api.Step){
		"N":      func(s *api.Step) { s.N = "1" },
		"Ops":    func(s *api.Step) { s.Ops = []api.Op{{Kind: api.OpAdd}} },
		"Zero":   func(s *api.Step) { s.Ops = []api.Op{{}} },
		"Pieces": func(s *api.Step) { s.Row.Pieces = []api.Piece{{C: "1", L: 1}} },
		"Degree": func(s *api.Step) { s.Row.Degree = "1" },
		"Lits":   func(s *api.Step) { s.Lits = []int{1} },
		"Ids":    func(s *api.Step) { s.Ids = []string{"1"} },
		"Empty":  func(s *api.Step) { s.Ids = []string{""} },
		"Ends":   func(s *api.Step) { s.Ends = api.None },
		"Low":    func(s *api.Step) { s.Low = "1" },
		"High":   func(s *api.Step) { s.High = "1" },
	}
}

func TestFieldsThatItsKindHasNot(t *testing.T) { // P8.5
	has := map[int]string{api.StepHead: "", api.StepCount: "N", api.StepPol: "Ops Zero", api.StepRup: "Pieces Degree Ids Empty", api.StepSoli: "Lits", api.StepDel: "Ids Empty", api.StepNote: "", api.StepOutput: "",
		api.StepEnds: "Ends", api.StepLast: "", api.StepSolx: "Lits", api.StepSame: "Ids Empty Pieces Degree"}
	ends := map[int]string{api.None: "", api.Unsat: "Ids Empty", api.Sat: "", api.Bounds: "Low High Ids Empty", api.All: "High Ids Empty"}
	asked := 0
	for _, k := range known() {
		for field, spoil := range spoilers() {
			if strings.Contains(" "+has[k.step.Kind]+" ", " "+field+" ") || k.step.Kind == api.StepEnds && strings.Contains(" "+ends[k.step.Ends]+" ", " "+field+" ") {
				continue
			}
			s := k.step
			spoil(&s)
			refuses(t, s)
			asked++
		}
	}
	if asked < 150 {
		t.Errorf("%d fields: too few to tell", asked)
	}
}

func TestStepsWithoutALine(t *testing.T) { // P8.5
	for _, kind := range []int{0, -1, 13, 14, 100, math.MaxInt, math.MinInt} {
		refuses(t, api.Step{Kind: kind}, api.Step{Kind: kind, N: "1"}, api.Step{Kind: api.StepEnds, Ends: kind}, pol(op(kind)), pol(row("1"), op(kind)), pol(op(kind), row("1")), pol(api.Op{Kind: kind, N: "1"}), pol(api.Op{Kind: kind, L: 1}))
	}
	refuses(t, api.Step{Kind: api.StepEnds}, api.Step{Kind: api.StepEnds, Ends: api.Best}, api.Step{Kind: api.StepEnds, Ends: api.Best, Low: "1", High: "1"}, pol(), api.Step{Kind: api.StepDel},
		api.Step{Kind: api.StepSame, Row: one(1)}, api.Step{Kind: api.StepSame, Row: one(1), Ids: []string{"1", "2"}}, api.Step{Kind: api.StepSame, Ids: []string{"1"}},
		api.Step{Kind: api.StepEnds, Ends: api.Unsat, Ids: []string{"1", "2"}}, api.Step{Kind: api.StepEnds, Ends: api.All, High: "1"}, api.Step{Kind: api.StepEnds, Ends: api.All, Ids: []string{"1"}},
		api.Step{Kind: api.StepEnds, Ends: api.All, High: "1", Ids: []string{"1", "2"}}, api.Step{Kind: api.StepEnds, Ends: api.Bounds, Low: "1"}, api.Step{Kind: api.StepEnds, Ends: api.Bounds, High: "1"},
		api.Step{Kind: api.StepEnds, Ends: api.Bounds, Low: "1", High: "1", Ids: []string{"1", "2"}}, api.Step{Kind: api.StepEnds, Ends: api.Bounds, Low: "1", Ids: []string{"1"}})
	for _, o := range []api.Op{{Kind: api.OpAdd, N: "1"}, {Kind: api.OpAdd, L: 1}, {Kind: api.OpSaturate, N: "1"}, {Kind: api.OpSaturate, L: -1}, {Kind: api.OpRow, N: "1", L: 1}, {Kind: api.OpLit, N: "1", L: 1}, {Kind: api.OpTimes, N: "1", L: 1},
		{Kind: api.OpDiv, N: "1", L: 1}, {Kind: api.OpWeaken, N: "1", L: 1}, {Kind: api.OpWeaken, L: -1}, {Kind: api.OpWeaken}, {Kind: api.OpLit}, {Kind: api.OpRow}, {Kind: api.OpTimes}, {Kind: api.OpDiv}} {
		refuses(t, pol(o), pol(row("7"), o), pol(o, row("7")), pol(lit(7), o, op(api.OpAdd)))
	}
}

func TestNumbersWithoutALine(t *testing.T) { // P8.5: at every place
	for _, n := range []string{"", " ", "x", "x1", "01", "-0", "+1", "1 ", " 1", "1\t", "1 2", "1\n", "1 x1", "1 x1 1", "1 ;", "1 ; 1", "1 : 1", ": 1", "1 *", "1 +", "\n", "1\x00", "\xff", "0", "-1"} {
		number := n == "0" || n == "-1"
		if n != "0" {
			refuses(t, api.Step{Kind: api.StepCount, N: n}, api.Step{Kind: api.StepEnds, Ends: api.All, High: n, Ids: []string{"1"}})
		}
		refuses(t, pol(row(n)), pol(api.Op{Kind: api.OpTimes, N: n}), pol(api.Op{Kind: api.OpDiv, N: n}), api.Step{Kind: api.StepRup, Row: one(1), Ids: []string{n}}, api.Step{Kind: api.StepRup, Row: one(1), Ids: []string{"1", n}},
			api.Step{Kind: api.StepSame, Row: one(1), Ids: []string{n}}, api.Step{Kind: api.StepDel, Ids: []string{n}}, api.Step{Kind: api.StepDel, Ids: []string{"1", n, "1"}}, api.Step{Kind: api.StepEnds, Ends: api.Unsat, Ids: []string{n}},
			api.Step{Kind: api.StepEnds, Ends: api.Bounds, Low: "1", High: "1", Ids: []string{n}}, api.Step{Kind: api.StepEnds, Ends: api.All, High: "1", Ids: []string{n}})
		if number {
			continue
		}
		for _, kind := range []int{api.StepRup, api.StepSame} {
			s := api.Step{Kind: kind, Row: api.Row{Pieces: []api.Piece{{C: "1", L: 1}, {C: n, L: 2}}, Degree: "1"}}
			if kind == api.StepSame {
				s.Ids = []string{"1"}
			}
			refuses(t, s)
			s.Row = api.Row{Pieces: []api.Piece{{C: "1", L: 1}}, Degree: n}
			refuses(t, s)
			s.Row = api.Row{Degree: n}
			refuses(t, s)
		}
		refuses(t, api.Step{Kind: api.StepEnds, Ends: api.Bounds, Low: n, High: "1"}, api.Step{Kind: api.StepEnds, Ends: api.Bounds, Low: "1", High: n}, api.Step{Kind: api.StepEnds, Ends: api.Bounds, Low: n, High: "1", Ids: []string{"1"}})
	}
}

func TestLiteralsWithoutALine(t *testing.T) { // P8.5: at every place
	for _, l := range []int{0, api.MaxLit + 1, -api.MaxLit - 1, math.MaxInt, math.MinInt, math.MinInt + 1, 1 << 32, 1<<32 + 1, -1 << 31} {
		refuses(t, pol(lit(l)), pol(api.Op{Kind: api.OpWeaken, L: l}), pol(row("1"), lit(l)), api.Step{Kind: api.StepSoli, Lits: []int{l}}, api.Step{Kind: api.StepSoli, Lits: []int{1, l}}, api.Step{Kind: api.StepSolx, Lits: []int{l, 1}},
			api.Step{Kind: api.StepRup, Row: one(l)}, api.Step{Kind: api.StepSame, Row: one(l), Ids: []string{"1"}})
	}
	for _, l := range []int{1, -1, api.MaxLit, -api.MaxLit} {
		prints(t, api.Step{Kind: api.StepSoli, Lits: []int{l}}, "soli "+literal(l))
		prints(t, pol(lit(l)), "pol "+literal(l))
	}
}

func TestLongNumbersStay(t *testing.T) { // P8.3, P8.5: numbers are kept as they are written
	long := "9" + strings.Repeat("0123456789", 1000)
	for _, s := range []api.Step{{Kind: api.StepCount, N: long}, pol(row(long)), {Kind: api.StepRup, Row: api.Row{Pieces: []api.Piece{{C: "-" + long, L: 1}}, Degree: long}, Ids: []string{long}}, {Kind: api.StepEnds, Ends: api.Bounds, Low: "-" + long, High: long}} {
		line := strings.Join(written(s), " ")
		prints(t, s, line)
		reads(t, line, s)
	}
	if s, e := proof.Parse("f " + long + "x"); e != api.ErrProofNumber || s.N != "" {
		t.Errorf("%d", e)
	}
}
