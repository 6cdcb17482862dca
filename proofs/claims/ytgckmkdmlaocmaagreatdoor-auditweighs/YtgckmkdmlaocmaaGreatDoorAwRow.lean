/-
  AuditWeighs: the row.
-/
import Derived.Test.YtgckmkdmlaocmaaGreatDoorAwLift
import Derived.Test.YtgckmkdmlaocmaaGreatDoorAwFact
namespace Go.Proofs.YtgckmkdmlaocmaaGreatDoor
open Go.ChangeShapes Go.WideShapes Go.ChangeAt Go.RowKit

theorem auditWeighs_row : Rows.AuditWeighsSaid :=
  OpenClaim.holds_of_wide 3 Tryz.f3 rfl rfl rfl rfl rfl rfl rfl ⟨rfl, rfl, rfl, rfl, rfl⟩ rfl rfl rfl rfl rfl (by kernel_rfl) Tryz.func3 closedW
    (of_decide_eq_true (by kernel_rfl)) (by unfold Func.isWrapper; first | (rw [if_pos (by decide +kernel)]; kernel_rfl) | (rw [if_neg (by decide +kernel)]; exact ⟨rfl, rfl⟩))
    (fun os started H enc _ => auditWeighs_lifted os started H enc)

end Go.Proofs.YtgckmkdmlaocmaaGreatDoor
