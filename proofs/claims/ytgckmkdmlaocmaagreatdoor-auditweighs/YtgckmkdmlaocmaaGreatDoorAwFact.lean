/-
  AuditWeighs: the closed facts of its row.
-/
import Derived.Test.YtgckmkdmlaocmaaGreatDoorRows
import Derived.ProofKit
import Derived.JoinedOf
namespace Go.Proofs.YtgckmkdmlaocmaaGreatDoor

theorem and_t {a b : Bool} (h : a = true) (k : b = true) : (a && b) = true := by rw [h, k]; rfl
set_option maxHeartbeats 4000000 in
theorem closedW : joinedFacts Tryz.prog 3 Tryz.f3 Rows.auditWeighsSpec Rows.auditWeighsRow = true := by
  unfold joinedFacts
  repeat' with_reducible refine and_t ?_ ?_
  all_goals (as_aux_lemma => kernel_rfl)
end Go.Proofs.YtgckmkdmlaocmaaGreatDoor
