import Derived.Test.YtpcijhecaedkpaaGreatDoorJ45
import Derived.Test.YtpcijhecaedkpaaGreatDoorRvB
import Derived.Test.YtpcijhecaedkpaaGreatDoorPfOpn
import Derived.Carry
namespace Go.Proofs.YtpcijhecaedkpaaGreatDoor
open Go.ChangeShapes Go.WideShapes Go.ChangeAt Go.RowKit Go.Deep
set_option maxRecDepth 100000
set_option maxHeartbeats 8000000
theorem laidOutP:laidOutB Tryz.prog=true:=by kernel_rfl
theorem proofPrints_lifted (os:Os) (started:os.Started) (H:Type) (enc:TypeId × Value->H) :
    ReturnsInHanded {} Tryz.checked os 4 .any (fun w args=>(Rows.proofPrintsSpec.pre enc Tryz.prog Tryz.f4 [] false w args/\laidMetH Tryz.prog laid8 w)/\sizedMet enc Tryz.prog Tryz.f4 (OpenSpec.ofChange Rows.proofPrintsSpec) false w args)
      (Rows.proofPrintsSpec.post enc Tryz.prog Tryz.f4 false true false false):=by
  refine handed_shaped (C:=Tryz.checked) (X:=fun w _=>laidMetH Tryz.prog laid8 w) (fun _ _ _ hh h=>h.of_heap hh) own started (by kernel_rfl) Tryz.func4
    (ChangeSpec.witness_shaped (enc:=enc) (C:=Tryz.checked) (os:=os) (X:=fun w _=>laidMetH Tryz.prog laid8 w) false ((World.doorLaid Tryz.prog 400 os).layVars Tryz.prog laid7) #[.slice none 0 0] 8 (World.layVars_os _ _ _) (shape7 os _) (by kernel_rfl) (by kernel_rfl) (by kernel_rfl) (met7 os _)) ?_
  intro W base args ds gs before hval0 hW hL hsh;have hval:∀ (j:Nat) t v,Tryz.f4.params[j]?=some t->args[j]?=some v->Value.okWide Tryz.prog W .any base t v:=hval0;have hW':=hW;obtain ⟨p,q,hA0,hV,rfl,hfz,hnd⟩:=hW;have hA:DataW.TrodAll enc Tryz.prog W 0 (fun _=>true) true Tryz.f4.params.toList args.toList ds p:=hA0;rw [Tryz.params4] at hA hval;obtain ⟨v0,d0,rfl,rfl,h0⟩:=trodAll_one hA;obtain ⟨rfl,rfl⟩:=trodVars_none hV;have h0k:=h0;obtain ⟨fuel0,hf0⟩:=h0;clear hA0 hval0;simp only [List.append_nil] at hW';have hlt:∀ x∈p,x.block<W.heap.size:=fun x hx=>by simpa using hW'.lt x hx
  have hGl:=gl_of_laid hL hsh;obtain ⟨x0,y0,z0,rfl⟩:=okWide_slice ou22 (hval 0 61 v0 rfl rfl);obtain ⟨u0,ds,hu0,hS,hI,hM⟩:=steps_o hf0;have e0:u0=.slice x0 y0 z0:=by simpa [Value.cells] using hu0.symm
  subst e0;refine (prints_any ds _ W hS hI hM hGl).mono fun e W' ⟨he,hb⟩=>?_
  subst he;exact ⟨_,rfl,_,_,_,[],_,[],hW',trodAll_mk1 (shut_bool Tryz.underlying4 true),trodAll_mk1 (Below.trod laidOutP (by kernel_rfl) (of_decide_eq_true (by kernel_rfl)) h0k hb (fun x hx=>hlt x hx)),rfl,hb.frame _,fun h=>by cases h⟩
end Go.Proofs.YtpcijhecaedkpaaGreatDoor
