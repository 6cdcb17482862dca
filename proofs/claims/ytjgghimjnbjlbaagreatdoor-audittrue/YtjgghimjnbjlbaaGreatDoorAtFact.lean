import Derived.Test.YtjgghimjnbjlbaaGreatDoorRows
import Derived.ProofKit
import Derived.JoinedOf
namespace Go.Proofs.YtjgghimjnbjlbaaGreatDoor
set_option maxRecDepth 10000
set_option maxHeartbeats 8000000
theorem y0O {a b:Bool} (h:a=true) (k:b=true):(a&&b)=true:=by rw [h,k];rfl
theorem y0P:joinedFacts Tryz.prog 3 Tryz.f3 Rows.auditTrueSpec Rows.auditTrueRow=true:=by
  unfold joinedFacts
  repeat' with_reducible refine y0O ?_ ?_
  all_goals (as_aux_lemma=>kernel_rfl)
end Go.Proofs.YtjgghimjnbjlbaaGreatDoor
