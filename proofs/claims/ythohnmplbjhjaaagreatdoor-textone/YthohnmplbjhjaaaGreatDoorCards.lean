/-
  DERIVED. GIVEN WITH THE SEED: THE CARDS: each row of YthohnmplbjhjaaaGreatDoorRows.lean that lists a variable, with what it lists TIED to the program's text (the seventh form; the later family's looks); each row that meets fmt, with fmt's text TOLD by the authors' own Lean function (tested against real Go, not proved from fmt's source: count such statements apart). THE CARD IS WHAT COUNTS. Prove the row's statement (the work); the ties are given (YthohnmplbjhjaaaGreatDoorTie.lean); close each card by the builder's one call (the guide's Derived/Test/ToyasCard.lean, 'card_holds'). Laid BY PROGRAM, IN A SANDBOX (cutbox-door.mjs). By AI agents, Wed Nov 11 2026. No macro, syntax, notation, axiom, sorry.
-/
import Derived.Test.YthohnmplbjhjaaaGreatDoorRows
import GoSem.ClaimSeven
namespace Go.Proofs.YthohnmplbjhjaaaGreatDoor
namespace Rows

/-- THE TIED CARD OF 'hallmarklaw5.TextBack'. -/
def textBackCard : Claim7 := { stood := { row := textBackRow, standIns := [], harness := (true, "559d4cdd057d987cf6042d69102197e0bbb44b1a18f175f2ae7272b968a0ac9f"), looks := true }, kinds := [], alts := [], laidByText := true, laidKinds := [.data, .data, .data, .data, .data, .pinned], laidTests := true, laidLooks := .later }
def TextBackCardSaid : Prop := Claim7.holds Tryz.pinned (.plain (OpenSpec.ofChange textBackSpec)) textBackCard

/-- THE TIED CARD OF 'hallmarklaw5.TextLoose'. -/
def textLooseCard : Claim7 := { stood := { row := textLooseRow, standIns := [], harness := (true, "559d4cdd057d987cf6042d69102197e0bbb44b1a18f175f2ae7272b968a0ac9f"), looks := true }, kinds := [], alts := [], laidByText := true, laidKinds := [.data, .data, .data, .data, .data, .pinned], laidTests := true, laidLooks := .later }
def TextLooseCardSaid : Prop := Claim7.holds Tryz.pinned (.plain (OpenSpec.ofChange textLooseSpec)) textLooseCard

/-- THE TIED CARD OF 'hallmarklaw5.TextFirst'. -/
def textFirstCard : Claim7 := { stood := { row := textFirstRow, standIns := [], harness := (true, "559d4cdd057d987cf6042d69102197e0bbb44b1a18f175f2ae7272b968a0ac9f"), looks := true }, kinds := [], alts := [], laidByText := true, laidKinds := [.data, .data, .data, .data, .data, .pinned], laidTests := true, laidLooks := .later }
def TextFirstCardSaid : Prop := Claim7.holds Tryz.pinned (.plain (OpenSpec.ofChange textFirstSpec)) textFirstCard

/-- THE TIED CARD OF 'hallmarklaw5.TextDerives'. -/
def textDerivesCard : Claim7 := { stood := { row := textDerivesRow, standIns := [], harness := (true, "559d4cdd057d987cf6042d69102197e0bbb44b1a18f175f2ae7272b968a0ac9f"), looks := true }, kinds := [], alts := [], laidByText := true, laidKinds := [.data, .data, .data, .data, .data, .pinned], laidTests := true, laidLooks := .later }
def TextDerivesCardSaid : Prop := Claim7.holds Tryz.pinned (.plain (OpenSpec.ofChange textDerivesSpec)) textDerivesCard

/-- THE TIED CARD OF 'hallmarklaw5.TextOne'. -/
def textOneCard : Claim7 := { stood := { row := textOneRow, standIns := [], harness := (true, "559d4cdd057d987cf6042d69102197e0bbb44b1a18f175f2ae7272b968a0ac9f"), looks := true }, kinds := [], alts := [], laidByText := true, laidKinds := [.data, .data, .data, .data, .data, .pinned], laidTests := true, laidLooks := .later }
def TextOneCardSaid : Prop := Claim7.holds Tryz.pinned (.plain (OpenSpec.ofChange textOneSpec)) textOneCard

/-- THE SECOND FORM's CARD OF 'hallmarklaw5.TextBack'. -/
def textBackUptoCard : Claim7 := { stood := { row := textBackUptoRow, standIns := [], harness := (true, "559d4cdd057d987cf6042d69102197e0bbb44b1a18f175f2ae7272b968a0ac9f"), looks := true }, kinds := [], alts := [], laidByText := true, laidKinds := [.data, .data, .data, .data, .data, .pinned], laidTests := true, laidLooks := .later }
def TextBackUptoCardSaid : Prop := Claim7.holds Tryz.pinned (.plain (OpenSpec.upto textBackSpec)) textBackUptoCard

/-- THE SECOND FORM's CARD OF 'hallmarklaw5.TextLoose'. -/
def textLooseUptoCard : Claim7 := { stood := { row := textLooseUptoRow, standIns := [], harness := (true, "559d4cdd057d987cf6042d69102197e0bbb44b1a18f175f2ae7272b968a0ac9f"), looks := true }, kinds := [], alts := [], laidByText := true, laidKinds := [.data, .data, .data, .data, .data, .pinned], laidTests := true, laidLooks := .later }
def TextLooseUptoCardSaid : Prop := Claim7.holds Tryz.pinned (.plain (OpenSpec.upto textLooseSpec)) textLooseUptoCard

/-- THE SECOND FORM's CARD OF 'hallmarklaw5.TextFirst'. -/
def textFirstUptoCard : Claim7 := { stood := { row := textFirstUptoRow, standIns := [], harness := (true, "559d4cdd057d987cf6042d69102197e0bbb44b1a18f175f2ae7272b968a0ac9f"), looks := true }, kinds := [], alts := [], laidByText := true, laidKinds := [.data, .data, .data, .data, .data, .pinned], laidTests := true, laidLooks := .later }
def TextFirstUptoCardSaid : Prop := Claim7.holds Tryz.pinned (.plain (OpenSpec.upto textFirstSpec)) textFirstUptoCard

/-- THE SECOND FORM's CARD OF 'hallmarklaw5.TextDerives'. -/
def textDerivesUptoCard : Claim7 := { stood := { row := textDerivesUptoRow, standIns := [], harness := (true, "559d4cdd057d987cf6042d69102197e0bbb44b1a18f175f2ae7272b968a0ac9f"), looks := true }, kinds := [], alts := [], laidByText := true, laidKinds := [.data, .data, .data, .data, .data, .pinned], laidTests := true, laidLooks := .later }
def TextDerivesUptoCardSaid : Prop := Claim7.holds Tryz.pinned (.plain (OpenSpec.upto textDerivesSpec)) textDerivesUptoCard

/-- THE SECOND FORM's CARD OF 'hallmarklaw5.TextOne'. -/
def textOneUptoCard : Claim7 := { stood := { row := textOneUptoRow, standIns := [], harness := (true, "559d4cdd057d987cf6042d69102197e0bbb44b1a18f175f2ae7272b968a0ac9f"), looks := true }, kinds := [], alts := [], laidByText := true, laidKinds := [.data, .data, .data, .data, .data, .pinned], laidTests := true, laidLooks := .later }
def TextOneUptoCardSaid : Prop := Claim7.holds Tryz.pinned (.plain (OpenSpec.upto textOneSpec)) textOneUptoCard
end Rows
end Go.Proofs.YthohnmplbjhjaaaGreatDoor
