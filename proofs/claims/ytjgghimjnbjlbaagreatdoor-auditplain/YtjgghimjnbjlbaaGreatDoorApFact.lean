/-
  AuditPlain: the closed facts of its row.
-/
import Derived.Test.YtjgghimjnbjlbaaGreatDoorRows
import Derived.ProofKit
import Derived.JoinedOf
namespace Go.Proofs.YtjgghimjnbjlbaaGreatDoor

theorem and_tAp {a b : Bool} (h : a = true) (k : b = true) : (a && b) = true := by rw [h, k]; rfl
set_option maxHeartbeats 4000000 in
theorem closedAp : joinedFacts Tryz.prog 4 Tryz.f4 Rows.auditPlainSpec Rows.auditPlainRow = true := by
  unfold joinedFacts
  repeat' with_reducible refine and_tAp ?_ ?_
  all_goals (as_aux_lemma => kernel_rfl)
end Go.Proofs.YtjgghimjnbjlbaaGreatDoor
