import Derived.Test.YtpcijhecaedkpaaGreatDoorRvLift
import Derived.Test.YtpcijhecaedkpaaGreatDoorRvFact
namespace Go.Proofs.YtpcijhecaedkpaaGreatDoor
open Go.ChangeShapes Go.WideShapes Go.ChangeAt Go.RowKit Go.Deep
theorem proofPrints_row:Rows.ProofPrintsSaid:=
  OpenClaim.holds_of_wide 4 Tryz.f4 rfl rfl rfl rfl rfl rfl rfl ⟨rfl,rfl,rfl,rfl,rfl⟩ rfl rfl rfl rfl rfl (by kernel_rfl) Tryz.func4 closedP
    (of_decide_eq_true (by kernel_rfl)) (by unfold Func.isWrapper;first | (rw [if_pos (by decide +kernel)];kernel_rfl) | (rw [if_neg (by decide +kernel)];exact ⟨rfl,rfl⟩))
    (fun os started H enc _=>proofPrints_lifted os started H enc)
end Go.Proofs.YtpcijhecaedkpaaGreatDoor
