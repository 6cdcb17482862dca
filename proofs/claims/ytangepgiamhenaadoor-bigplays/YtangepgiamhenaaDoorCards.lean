/-
  DERIVED. GIVEN WITH THE SEED: THE CARDS: each row of YtangepgiamhenaaDoorRows.lean that lists a variable, with what it lists TIED to the program's text (the seventh form; the later family's looks); each row that meets fmt, with fmt's text TOLD by the authors' own Lean function (tested against real Go, not proved from fmt's source: count such statements apart). THE CARD IS WHAT COUNTS. Prove the row's statement (the work); the ties are given (YtangepgiamhenaaDoorTie.lean); close each card by the builder's one call (the guide's Derived/Test/ToyasCard.lean, 'card_holds'). Laid BY PROGRAM, IN A SANDBOX (cutbox-door.mjs). By AI agents, Wed Nov 11 2026. No macro, syntax, notation, axiom, sorry.
-/
import Derived.Test.YtangepgiamhenaaDoorRows
import GoSem.ClaimSeven
namespace Go.Proofs.YtangepgiamhenaaDoor
namespace Rows

/-- THE TIED CARD OF 'hallmarklaw1.BigParses'. -/
def bigParsesCard : Claim7 := { stood := { row := bigParsesRow, standIns := [], harness := (true, "5a5df85e1cf99a72e39d10f06d12b3f48c6686ba944ce6c46bfa08f2b9904a62"), looks := false }, kinds := [], alts := [], laidByText := true, laidKinds := [.data, .data, .data], laidTests := true, laidLooks := .later }
def BigParsesCardSaid : Prop := Claim7.holds Tryd.pinned (.plain (OpenSpec.ofChange bigParsesSpec)) bigParsesCard

/-- THE TIED CARD OF 'hallmarklaw1.BigOfs'. -/
def bigOfsCard : Claim7 := { stood := { row := bigOfsRow, standIns := [], harness := (true, "5a5df85e1cf99a72e39d10f06d12b3f48c6686ba944ce6c46bfa08f2b9904a62"), looks := false }, kinds := [], alts := [], laidByText := true, laidKinds := [.data, .data, .data], laidTests := true, laidLooks := .later }
def BigOfsCardSaid : Prop := Claim7.holds Tryd.pinned (.plain (OpenSpec.ofChange bigOfsSpec)) bigOfsCard

/-- THE TIED CARD OF 'hallmarklaw1.BigTwo'. -/
def bigTwoCard : Claim7 := { stood := { row := bigTwoRow, standIns := [], harness := (true, "5a5df85e1cf99a72e39d10f06d12b3f48c6686ba944ce6c46bfa08f2b9904a62"), looks := false }, kinds := [], alts := [], laidByText := true, laidKinds := [.data, .data, .data], laidTests := true, laidLooks := .later }
def BigTwoCardSaid : Prop := Claim7.holds Tryd.pinned (.plain (OpenSpec.ofChange bigTwoSpec)) bigTwoCard

/-- THE TIED CARD OF 'hallmarklaw1.BigPlays'. -/
def bigPlaysCard : Claim7 := { stood := { row := bigPlaysRow, standIns := [], harness := (true, "5a5df85e1cf99a72e39d10f06d12b3f48c6686ba944ce6c46bfa08f2b9904a62"), looks := false }, kinds := [], alts := [], laidByText := true, laidKinds := [.data, .data, .data], laidTests := true, laidLooks := .later }
def BigPlaysCardSaid : Prop := Claim7.holds Tryd.pinned (.plain (OpenSpec.ofChange bigPlaysSpec)) bigPlaysCard

/-- THE TIED CARD OF 'hallmarklaw1.BigRing'. -/
def bigRingCard : Claim7 := { stood := { row := bigRingRow, standIns := [], harness := (true, "5a5df85e1cf99a72e39d10f06d12b3f48c6686ba944ce6c46bfa08f2b9904a62"), looks := false }, kinds := [], alts := [], laidByText := true, laidKinds := [.data, .data, .data], laidTests := true, laidLooks := .later }
def BigRingCardSaid : Prop := Claim7.holds Tryd.pinned (.plain (OpenSpec.ofChange bigRingSpec)) bigRingCard

/-- THE TIED CARD OF 'hallmarklaw1.BigRounds'. -/
def bigRoundsCard : Claim7 := { stood := { row := bigRoundsRow, standIns := [], harness := (true, "5a5df85e1cf99a72e39d10f06d12b3f48c6686ba944ce6c46bfa08f2b9904a62"), looks := false }, kinds := [], alts := [], laidByText := true, laidKinds := [.data, .data, .data], laidTests := true, laidLooks := .later }
def BigRoundsCardSaid : Prop := Claim7.holds Tryd.pinned (.plain (OpenSpec.ofChange bigRoundsSpec)) bigRoundsCard

/-- THE SECOND FORM's CARD OF 'hallmarklaw1.BigParses'. -/
def bigParsesUptoCard : Claim7 := { stood := { row := bigParsesUptoRow, standIns := [], harness := (true, "5a5df85e1cf99a72e39d10f06d12b3f48c6686ba944ce6c46bfa08f2b9904a62"), looks := false }, kinds := [], alts := [], laidByText := true, laidKinds := [.data, .data, .data], laidTests := true, laidLooks := .later }
def BigParsesUptoCardSaid : Prop := Claim7.holds Tryd.pinned (.plain (OpenSpec.upto bigParsesSpec)) bigParsesUptoCard

/-- THE SECOND FORM's CARD OF 'hallmarklaw1.BigOfs'. -/
def bigOfsUptoCard : Claim7 := { stood := { row := bigOfsUptoRow, standIns := [], harness := (true, "5a5df85e1cf99a72e39d10f06d12b3f48c6686ba944ce6c46bfa08f2b9904a62"), looks := false }, kinds := [], alts := [], laidByText := true, laidKinds := [.data, .data, .data], laidTests := true, laidLooks := .later }
def BigOfsUptoCardSaid : Prop := Claim7.holds Tryd.pinned (.plain (OpenSpec.upto bigOfsSpec)) bigOfsUptoCard

/-- THE SECOND FORM's CARD OF 'hallmarklaw1.BigTwo'. -/
def bigTwoUptoCard : Claim7 := { stood := { row := bigTwoUptoRow, standIns := [], harness := (true, "5a5df85e1cf99a72e39d10f06d12b3f48c6686ba944ce6c46bfa08f2b9904a62"), looks := false }, kinds := [], alts := [], laidByText := true, laidKinds := [.data, .data, .data], laidTests := true, laidLooks := .later }
def BigTwoUptoCardSaid : Prop := Claim7.holds Tryd.pinned (.plain (OpenSpec.upto bigTwoSpec)) bigTwoUptoCard

/-- THE SECOND FORM's CARD OF 'hallmarklaw1.BigPlays'. -/
def bigPlaysUptoCard : Claim7 := { stood := { row := bigPlaysUptoRow, standIns := [], harness := (true, "5a5df85e1cf99a72e39d10f06d12b3f48c6686ba944ce6c46bfa08f2b9904a62"), looks := false }, kinds := [], alts := [], laidByText := true, laidKinds := [.data, .data, .data], laidTests := true, laidLooks := .later }
def BigPlaysUptoCardSaid : Prop := Claim7.holds Tryd.pinned (.plain (OpenSpec.upto bigPlaysSpec)) bigPlaysUptoCard

/-- THE SECOND FORM's CARD OF 'hallmarklaw1.BigRing'. -/
def bigRingUptoCard : Claim7 := { stood := { row := bigRingUptoRow, standIns := [], harness := (true, "5a5df85e1cf99a72e39d10f06d12b3f48c6686ba944ce6c46bfa08f2b9904a62"), looks := false }, kinds := [], alts := [], laidByText := true, laidKinds := [.data, .data, .data], laidTests := true, laidLooks := .later }
def BigRingUptoCardSaid : Prop := Claim7.holds Tryd.pinned (.plain (OpenSpec.upto bigRingSpec)) bigRingUptoCard

/-- THE SECOND FORM's CARD OF 'hallmarklaw1.BigRounds'. -/
def bigRoundsUptoCard : Claim7 := { stood := { row := bigRoundsUptoRow, standIns := [], harness := (true, "5a5df85e1cf99a72e39d10f06d12b3f48c6686ba944ce6c46bfa08f2b9904a62"), looks := false }, kinds := [], alts := [], laidByText := true, laidKinds := [.data, .data, .data], laidTests := true, laidLooks := .later }
def BigRoundsUptoCardSaid : Prop := Claim7.holds Tryd.pinned (.plain (OpenSpec.upto bigRoundsSpec)) bigRoundsUptoCard
end Rows
end Go.Proofs.YtangepgiamhenaaDoor
