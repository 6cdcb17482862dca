import Derived.Test.YtpcijhecaedkpaaGreatDoorRwLift
import Derived.Test.YtpcijhecaedkpaaGreatDoorRwFact
namespace Go.Proofs.YtpcijhecaedkpaaGreatDoor
open Go.ChangeShapes Go.WideShapes Go.ChangeAt Go.RowKit Go.Deep
theorem proofWrites_row:Rows.ProofWritesSaid:=
  OpenClaim.holds_of_wide 6 Tryz.f6 rfl rfl rfl rfl rfl rfl rfl ⟨rfl,rfl,rfl,rfl,rfl⟩ rfl rfl rfl rfl rfl (by kernel_rfl) Tryz.func6 closedW
    (of_decide_eq_true (by kernel_rfl)) (by unfold Func.isWrapper;first | (rw [if_pos (by decide +kernel)];kernel_rfl) | (rw [if_neg (by decide +kernel)];exact ⟨rfl,rfl⟩))
    (fun os started H enc _=>proofWrites_lifted os started H enc)
end Go.Proofs.YtpcijhecaedkpaaGreatDoor
