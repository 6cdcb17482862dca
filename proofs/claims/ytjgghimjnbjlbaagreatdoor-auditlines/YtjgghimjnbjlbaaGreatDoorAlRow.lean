/-
  AuditLines: the row.
-/
import Derived.Test.YtjgghimjnbjlbaaGreatDoorAlLift
import Derived.Test.YtjgghimjnbjlbaaGreatDoorAlFact
namespace Go.Proofs.YtjgghimjnbjlbaaGreatDoor
open Go.ChangeShapes Go.WideShapes Go.ChangeAt Go.RowKit

theorem auditLines_row : Rows.AuditLinesSaid :=
  OpenClaim.holds_of_wide 6 Tryz.f6 rfl rfl rfl rfl rfl rfl rfl ⟨rfl, rfl, rfl, rfl, rfl⟩ rfl rfl rfl rfl rfl (by kernel_rfl) Tryz.func6 closedAl
    (of_decide_eq_true (by kernel_rfl)) (by unfold Func.isWrapper; first | (rw [if_pos (by decide +kernel)]; kernel_rfl) | (rw [if_neg (by decide +kernel)]; exact ⟨rfl, rfl⟩))
    (fun os started H enc _ => auditLines_lifted os started H enc)

end Go.Proofs.YtjgghimjnbjlbaaGreatDoor
