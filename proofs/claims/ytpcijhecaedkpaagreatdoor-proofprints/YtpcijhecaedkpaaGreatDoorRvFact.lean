import Derived.Test.YtpcijhecaedkpaaGreatDoorRows
import Derived.ProofKit
import Derived.JoinedOf
namespace Go.Proofs.YtpcijhecaedkpaaGreatDoor
set_option maxRecDepth 10000
set_option maxHeartbeats 8000000
theorem and_tP {a b:Bool} (h:a=true) (k:b=true):(a&&b)=true:=by rw [h,k];rfl
theorem closedP:joinedFacts Tryz.prog 4 Tryz.f4 Rows.proofPrintsSpec Rows.proofPrintsRow=true:=by
  unfold joinedFacts
  repeat' with_reducible refine and_tP ?_ ?_
  all_goals (as_aux_lemma=>kernel_rfl)
end Go.Proofs.YtpcijhecaedkpaaGreatDoor
