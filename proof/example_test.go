package proof_test

import (
	"errors"
	"fmt"
	"testing"

	"hallmark/api"
	"hallmark/proof"
)

func ExampleParse() {
	s, e := proof.Parse("rup 2 x1 -3 ~x2 >= 0 ; 4 2")
	fmt.Println(s.Kind == api.StepRup, s.Row, s.Ids, e == api.OK)
	_, e = proof.Parse("rup 1 x1 >= 1")
	fmt.Println(e == api.ErrProofEnd)
	// Output:
	// true {[{2 1} {-3 -2}] 0} [4 2] true
	// true
}

func ExamplePrint() {
	line, e := proof.Print(api.Step{Kind: api.StepPol, Ops: []api.Op{{Kind: api.OpRow, N: "3"}, {Kind: api.OpWeaken, L: 5}, {Kind: api.OpDiv, N: "2"}}})
	fmt.Println(line, e == api.OK)
	_, e = proof.Print(api.Step{Kind: api.StepPol})
	fmt.Println(e == api.ErrProofStep)
	// Output:
	// pol 3 x5 w 2 d true
	// true
}

func ExampleRead() {
	l, err := proof.Read("f 3\n\n  soli  x1\n")
	log, _ := proof.Write(l)
	fmt.Printf("%d %v %q\n", len(l), err, log)
	_, err = proof.Read("f 3\n*\npol\nx")
	var f *api.Fault
	if errors.As(err, &f) {
		fmt.Println(f.In == api.InLog, f.Line, f.Err == api.ErrProofEnd)
	}
	// Output:
	// 3 <nil> "f 3\n*\nsoli x1\n"
	// true 3 true
}

// TestExamples: the chapter's.
func TestExamples(t *testing.T) { // P8.3, P8.4
	reads(t, "pol 3 4 + 2 d x5 w s ~x1 3 * +", pol(row("3"), row("4"), op(api.OpAdd), api.Op{Kind: api.OpDiv, N: "2"}, api.Op{Kind: api.OpWeaken, L: 5},
		op(api.OpSaturate), lit(-1), api.Op{Kind: api.OpTimes, N: "3"}, op(api.OpAdd)))
	reads(t, "rup 2 x1 -3 ~x2 >= 0 ;", api.Step{Kind: api.StepRup, Row: api.Row{Pieces: []api.Piece{{C: "2", L: 1}, {C: "-3", L: -2}}, Degree: "0"}})
	reads(t, "conclusion BOUNDS 3 : 17 3", api.Step{Kind: api.StepEnds, Ends: api.Bounds, Low: "3", Ids: []string{"17"}, High: "3"})
	reads(t, "rup 1 x1 >= 1 ; 4 2", api.Step{Kind: api.StepRup, Row: one(1), Ids: []string{"4", "2"}})
	reads(t, "e 3 1 x1 >= 1 ;", api.Step{Kind: api.StepSame, Row: one(1), Ids: []string{"3"}})
	reads(t, "", api.Step{Kind: api.StepNote})
	fails(t, api.ErrProofEnd, "pol", "rup 1 x1 >= 1", "conclusion ALL 3")
	fails(t, api.ErrProofWord, "pol d", "pol 3 4 - ", "pol x1 d", "conclusion SAT x1", "conclusion ALL 3 4")
	fails(t, api.ErrProofNumber, "pol 0", "f -1", "f x", "rup 1 y1 >= 1 ;", "soli 1", "rup 1 x1 > 1 ;", "rup 1 x1 >= 1 ; x")
}
