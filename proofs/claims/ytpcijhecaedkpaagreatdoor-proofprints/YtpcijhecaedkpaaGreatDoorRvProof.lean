import Derived.Test.YtpcijhecaedkpaaGreatDoorRvRow
namespace Go.Proofs.YtpcijhecaedkpaaGreatDoor
open Go.ChangeShapes Go.WideShapes Go.ChangeAt Go.RowKit Go.Deep
set_option maxRecDepth 10000
set_option maxHeartbeats 8000000
theorem proofPrints_holds:Rows.ProofPrintsCardSaid:=
  Claim7.holds_tied_plain_at .later [] [.data, .data, .data, .data, .handle, .listed, .data, .pinned] true (true, "d73a28d47766465ebcb8fdcf02e43d4207d12aff371ab2600f519d242f680040") true
    proofPrints_row (fun _ h=>by cases h) (by as_aux_lemma=>kernel_rfl) (fun _ h=>by cases h) proofPrints_row_tie rfl ⟨rfl,rfl⟩ (by as_aux_lemma=>kernel_rfl) rfl
    (fun f fn hf hfn=>by
      obtain rfl : f = 4 := Option.some.inj ((show Tryz.prog.funcNamed "hallmark/hallmarklaw8.ProofPrints" = some 4 by kernel_rfl).symm.trans hf) |>.symm
      obtain rfl:fn=Tryz.f4:=(Option.some.inj (Tryz.func4.symm.trans hfn)).symm
      exact ⟨by as_aux_lemma=>kernel_rfl,fun j t ht=>by
        rw [Tryz.params4] at ht;have hm:t∈[61]:=by simpa using Array.mem_of_getElem? ht
        have hall:([61].all fun u=>!Tryz.prog.wantsStandIn u)=true:=by kernel_rfl
        exact (show Tryz.prog.wantsStandIn t=false by simpa using List.all_eq_true.1 hall t hm)⟩)
    (by as_aux_lemma=>kernel_rfl)
end Go.Proofs.YtpcijhecaedkpaaGreatDoor
