/-
  DERIVED. GIVEN WITH THE SEED: THE CARDS: each row of YtdfbmfikhccajaaGreatDoorRows.lean that lists a variable, with what it lists TIED to the program's text (the seventh form; the later family's looks); each row that meets fmt, with fmt's text TOLD by the authors' own Lean function (tested against real Go, not proved from fmt's source: count such statements apart). THE CARD IS WHAT COUNTS. Prove the row's statement (the work); the ties are given (YtdfbmfikhccajaaGreatDoorTie.lean); close each card by the builder's one call (the guide's Derived/Test/ToyasCard.lean, 'card_holds'). Laid BY PROGRAM, IN A SANDBOX (cutbox-door.mjs). By AI agents, Wed Nov 11 2026. No macro, syntax, notation, axiom, sorry.
-/
import Derived.Test.YtdfbmfikhccajaaGreatDoorRows
import GoSem.ClaimSeven
namespace Go.Proofs.YtdfbmfikhccajaaGreatDoor
namespace Rows

/-- THE TIED CARD OF 'hallmarklaw17.BranchPicks'. -/
def branchPicksCard : Claim7 := { stood := { row := branchPicksRow, standIns := [], harness := (true, "444a7674138dee69ef465f2f18a8a5dc0179d39721f3da187d5592e6d877509c"), looks := false }, kinds := [], alts := [], laidByText := true, laidKinds := [.data], laidTests := true, laidLooks := .later }
def BranchPicksCardSaid : Prop := Claim7.holds Tryz.pinned (.plain (OpenSpec.ofChange branchPicksSpec)) branchPicksCard

/-- THE TIED CARD OF 'hallmarklaw17.BranchParts'. -/
def branchPartsCard : Claim7 := { stood := { row := branchPartsRow, standIns := [], harness := (true, "444a7674138dee69ef465f2f18a8a5dc0179d39721f3da187d5592e6d877509c"), looks := false }, kinds := [], alts := [], laidByText := true, laidKinds := [.data], laidTests := true, laidLooks := .later }
def BranchPartsCardSaid : Prop := Claim7.holds Tryz.pinned (.plain (OpenSpec.ofChange branchPartsSpec)) branchPartsCard

/-- THE SECOND FORM's CARD OF 'hallmarklaw17.BranchPicks'. -/
def branchPicksUptoCard : Claim7 := { stood := { row := branchPicksUptoRow, standIns := [], harness := (true, "444a7674138dee69ef465f2f18a8a5dc0179d39721f3da187d5592e6d877509c"), looks := false }, kinds := [], alts := [], laidByText := true, laidKinds := [.data], laidTests := true, laidLooks := .later }
def BranchPicksUptoCardSaid : Prop := Claim7.holds Tryz.pinned (.plain (OpenSpec.upto branchPicksSpec)) branchPicksUptoCard

/-- THE SECOND FORM's CARD OF 'hallmarklaw17.BranchParts'. -/
def branchPartsUptoCard : Claim7 := { stood := { row := branchPartsUptoRow, standIns := [], harness := (true, "444a7674138dee69ef465f2f18a8a5dc0179d39721f3da187d5592e6d877509c"), looks := false }, kinds := [], alts := [], laidByText := true, laidKinds := [.data], laidTests := true, laidLooks := .later }
def BranchPartsUptoCardSaid : Prop := Claim7.holds Tryz.pinned (.plain (OpenSpec.upto branchPartsSpec)) branchPartsUptoCard
end Rows
end Go.Proofs.YtdfbmfikhccajaaGreatDoor
