import Derived.Test.YtjgghimjnbjlbaaGreatDoorRows
import Derived.ProofKit
import Derived.JoinedOf
namespace Go.Proofs.YtjgghimjnbjlbaaGreatDoor
set_option maxRecDepth 10000
set_option maxHeartbeats 8000000
theorem and_tAn {a b:Bool} (h:a=true) (k:b=true):(a&&b)=true:=by rw [h,k];rfl
theorem closedAn:joinedFacts Tryz.prog 5 Tryz.f5 Rows.auditMoreSpec Rows.auditMoreRow=true:=by
  unfold joinedFacts
  repeat' with_reducible refine and_tAn ?_ ?_
  all_goals (as_aux_lemma=>kernel_rfl)
end Go.Proofs.YtjgghimjnbjlbaaGreatDoor
