/-
  DERIVED. GIVEN WITH THE SEED: THE CARDS: each row of YtgckmkdmlaocmaaGreatDoorRows.lean that lists a variable, with what it lists TIED to the program's text (the seventh form; the later family's looks); each row that meets fmt, with fmt's text TOLD by the authors' own Lean function (tested against real Go, not proved from fmt's source: count such statements apart). THE CARD IS WHAT COUNTS. Prove the row's statement (the work); the ties are given (YtgckmkdmlaocmaaGreatDoorTie.lean); close each card by the builder's one call (the guide's Derived/Test/ToyasCard.lean, 'card_holds'). Laid BY PROGRAM, IN A SANDBOX (cutbox-door.mjs). By AI agents, Wed Nov 11 2026. No macro, syntax, notation, axiom, sorry.
-/
import Derived.Test.YtgckmkdmlaocmaaGreatDoorRows
import GoSem.ClaimSeven
namespace Go.Proofs.YtgckmkdmlaocmaaGreatDoor
namespace Rows

/-- THE TIED CARD OF 'hallmarklaw21.AuditWeighs'. -/
def auditWeighsCard : Claim7 := { stood := { row := auditWeighsRow, standIns := [], harness := (true, "9517f467f126800352f10001565285cc35e6f88a3e832ecfb0c5ea1ee1ac5767"), looks := true }, kinds := [], alts := [], laidByText := true, laidKinds := [.data, .data, .data, .data, .handle, .listed, .data, .pinned], laidTests := true, laidLooks := .later }
def AuditWeighsCardSaid : Prop := Claim7.holds Tryz.pinned (.plain (OpenSpec.ofChange auditWeighsSpec)) auditWeighsCard

/-- THE SECOND FORM's CARD OF 'hallmarklaw21.AuditWeighs'. -/
def auditWeighsUptoCard : Claim7 := { stood := { row := auditWeighsUptoRow, standIns := [], harness := (true, "9517f467f126800352f10001565285cc35e6f88a3e832ecfb0c5ea1ee1ac5767"), looks := true }, kinds := [], alts := [], laidByText := true, laidKinds := [.data, .data, .data, .data, .handle, .listed, .data, .pinned], laidTests := true, laidLooks := .later }
def AuditWeighsUptoCardSaid : Prop := Claim7.holds Tryz.pinned (.plain (OpenSpec.upto auditWeighsSpec)) auditWeighsUptoCard
end Rows
end Go.Proofs.YtgckmkdmlaocmaaGreatDoor
