/-
  AuditLines: the closed facts of its row.
-/
import Derived.Test.YtjgghimjnbjlbaaGreatDoorRows
import Derived.ProofKit
import Derived.JoinedOf
namespace Go.Proofs.YtjgghimjnbjlbaaGreatDoor

theorem and_t {a b : Bool} (h : a = true) (k : b = true) : (a && b) = true := by rw [h, k]; rfl
set_option maxHeartbeats 4000000 in
theorem closedAl : joinedFacts Tryz.prog 6 Tryz.f6 Rows.auditLinesSpec Rows.auditLinesRow = true := by
  unfold joinedFacts
  repeat' with_reducible refine and_t ?_ ?_
  all_goals (as_aux_lemma => kernel_rfl)
end Go.Proofs.YtjgghimjnbjlbaaGreatDoor
