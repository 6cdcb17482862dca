/-
  DERIVED. GIVEN WITH THE SEED: THE CARDS: each row of YtjffbndiecjkjaaGreatDoorRows.lean that lists a variable, with what it lists TIED to the program's text (the seventh form; the later family's looks); each row that meets fmt, with fmt's text TOLD by the authors' own Lean function (tested against real Go, not proved from fmt's source: count such statements apart). THE CARD IS WHAT COUNTS. Prove the row's statement (the work); the ties are given (YtjffbndiecjkjaaGreatDoorTie.lean); close each card by the builder's one call (the guide's Derived/Test/ToyasCard.lean, 'card_holds'). Laid BY PROGRAM, IN A SANDBOX (cutbox-door.mjs). By AI agents, Wed Nov 11 2026. No macro, syntax, notation, axiom, sorry.
-/
import Derived.Test.YtjffbndiecjkjaaGreatDoorRows
import GoSem.ClaimSeven
namespace Go.Proofs.YtjffbndiecjkjaaGreatDoor
namespace Rows

/-- THE TIED CARD OF 'hallmarklaw2.PbForm'. -/
def pbFormCard : Claim7 := { stood := { row := pbFormRow, standIns := [], harness := (true, "e55a25efc5319257e3685ee3198495664f626ce81524e162c208dc1ba58ca326"), looks := false }, kinds := [], alts := [], laidByText := true, laidKinds := [.data, .data, .data], laidTests := true, laidLooks := .later }
def PbFormCardSaid : Prop := Claim7.holds Tryz.pinned (.plain (OpenSpec.ofChange pbFormSpec)) pbFormCard

/-- THE TIED CARD OF 'hallmarklaw2.PbSound'. -/
def pbSoundCard : Claim7 := { stood := { row := pbSoundRow, standIns := [], harness := (true, "e55a25efc5319257e3685ee3198495664f626ce81524e162c208dc1ba58ca326"), looks := false }, kinds := [], alts := [], laidByText := true, laidKinds := [.data, .data, .data], laidTests := true, laidLooks := .later }
def PbSoundCardSaid : Prop := Claim7.holds Tryz.pinned (.plain (OpenSpec.ofChange pbSoundSpec)) pbSoundCard

/-- THE TIED CARD OF 'hallmarklaw2.PbAgain'. -/
def pbAgainCard : Claim7 := { stood := { row := pbAgainRow, standIns := [], harness := (true, "e55a25efc5319257e3685ee3198495664f626ce81524e162c208dc1ba58ca326"), looks := false }, kinds := [], alts := [], laidByText := true, laidKinds := [.data, .data, .data], laidTests := true, laidLooks := .later }
def PbAgainCardSaid : Prop := Claim7.holds Tryz.pinned (.plain (OpenSpec.ofChange pbAgainSpec)) pbAgainCard

/-- THE TIED CARD OF 'hallmarklaw2.PbAll'. -/
def pbAllCard : Claim7 := { stood := { row := pbAllRow, standIns := [], harness := (true, "e55a25efc5319257e3685ee3198495664f626ce81524e162c208dc1ba58ca326"), looks := false }, kinds := [], alts := [], laidByText := true, laidKinds := [.data, .data, .data], laidTests := true, laidLooks := .later }
def PbAllCardSaid : Prop := Claim7.holds Tryz.pinned (.plain (OpenSpec.ofChange pbAllSpec)) pbAllCard

/-- THE SECOND FORM's CARD OF 'hallmarklaw2.PbForm'. -/
def pbFormUptoCard : Claim7 := { stood := { row := pbFormUptoRow, standIns := [], harness := (true, "e55a25efc5319257e3685ee3198495664f626ce81524e162c208dc1ba58ca326"), looks := false }, kinds := [], alts := [], laidByText := true, laidKinds := [.data, .data, .data], laidTests := true, laidLooks := .later }
def PbFormUptoCardSaid : Prop := Claim7.holds Tryz.pinned (.plain (OpenSpec.upto pbFormSpec)) pbFormUptoCard

/-- THE SECOND FORM's CARD OF 'hallmarklaw2.PbSound'. -/
def pbSoundUptoCard : Claim7 := { stood := { row := pbSoundUptoRow, standIns := [], harness := (true, "e55a25efc5319257e3685ee3198495664f626ce81524e162c208dc1ba58ca326"), looks := false }, kinds := [], alts := [], laidByText := true, laidKinds := [.data, .data, .data], laidTests := true, laidLooks := .later }
def PbSoundUptoCardSaid : Prop := Claim7.holds Tryz.pinned (.plain (OpenSpec.upto pbSoundSpec)) pbSoundUptoCard

/-- THE SECOND FORM's CARD OF 'hallmarklaw2.PbAgain'. -/
def pbAgainUptoCard : Claim7 := { stood := { row := pbAgainUptoRow, standIns := [], harness := (true, "e55a25efc5319257e3685ee3198495664f626ce81524e162c208dc1ba58ca326"), looks := false }, kinds := [], alts := [], laidByText := true, laidKinds := [.data, .data, .data], laidTests := true, laidLooks := .later }
def PbAgainUptoCardSaid : Prop := Claim7.holds Tryz.pinned (.plain (OpenSpec.upto pbAgainSpec)) pbAgainUptoCard

/-- THE SECOND FORM's CARD OF 'hallmarklaw2.PbAll'. -/
def pbAllUptoCard : Claim7 := { stood := { row := pbAllUptoRow, standIns := [], harness := (true, "e55a25efc5319257e3685ee3198495664f626ce81524e162c208dc1ba58ca326"), looks := false }, kinds := [], alts := [], laidByText := true, laidKinds := [.data, .data, .data], laidTests := true, laidLooks := .later }
def PbAllUptoCardSaid : Prop := Claim7.holds Tryz.pinned (.plain (OpenSpec.upto pbAllSpec)) pbAllUptoCard
end Rows
end Go.Proofs.YtjffbndiecjkjaaGreatDoor
