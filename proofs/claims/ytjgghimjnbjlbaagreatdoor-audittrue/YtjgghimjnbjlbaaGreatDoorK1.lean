/-
  Put together: AtLift, AtRow.
-/
import Derived.Test.YtjgghimjnbjlbaaGreatDoorJ50
import Derived.Test.YtjgghimjnbjlbaaGreatDoorK4
import Derived.Test.YtjgghimjnbjlbaaGreatDoorK2
import Derived.Carry
import Derived.Test.YtjgghimjnbjlbaaGreatDoorAtFact
namespace Go.Proofs.YtjgghimjnbjlbaaGreatDoor
open Go.ChangeShapes Go.WideShapes Go.ChangeAt Go.RowKit Go.Deep
set_option maxRecDepth 10000
set_option maxHeartbeats 8000000
theorem Xr:laidOutB Tryz.prog=true:=by kernel_rfl
theorem y14 (os:Os) (started:os.Started) (H:Type) (enc:TypeId × Value->H) :
    ReturnsInHanded {} Tryz.checked os 3 .any (fun w args=>(Rows.auditTrueSpec.pre enc Tryz.prog Tryz.f3 [] false w args/\laidMetH Tryz.prog laid8 w)/\sizedMet enc Tryz.prog Tryz.f3 (OpenSpec.ofChange Rows.auditTrueSpec) false w args)
      (Rows.auditTrueSpec.post enc Tryz.prog Tryz.f3 false true false false):=by
  refine y15 (C:=Tryz.checked) (X:=fun w _=>laidMetH Tryz.prog laid8 w) (fun _ _ _ hh h=>h.of_heap hh) own started (by kernel_rfl) Tryz.func3
    (ChangeSpec.witness_shaped (enc:=enc) (C:=Tryz.checked) (os:=os) (X:=fun w _=>laidMetH Tryz.prog laid8 w) false ((World.doorLaid Tryz.prog 400 os).layVars Tryz.prog laid7) #[.agg #[.slice none 0 0,.slice none 0 0,.bool false,.slice none 0 0],.slice none 0 0] 8 (World.layVars_os _ _ _) (y16 os _) (by kernel_rfl) (by kernel_rfl) (by kernel_rfl) (met7 os _)) ?_
  intro W base args ds gs before hval0 hW hSz hL hsh;have hval:∀ (j:Nat) t v,Tryz.f3.params[j]?=some t->args[j]?=some v->Value.okWide Tryz.prog W .any base t v:=hval0;have hW':=hW;obtain ⟨p,q,hA0,hV,rfl,hfz,hnd⟩:=hW;have hA:DataW.TrodAll enc Tryz.prog W 0 (fun _=>true) true Tryz.f3.params.toList args.toList ds p:=hA0;have hSz':(DataW.weightsEach Tryz.prog (Tryz.f3.params.toList++Rows.auditTrueSpec.plain.varTypes Tryz.prog) (ds++gs)).all (·<=reachBytes)=true:=hSz;rw [Tryz.params3] at hA hval hSz';obtain ⟨v0,v1,d0,d1,p0,p1,rfl,rfl,rfl,h0,h1⟩:=trodAll_two hA;obtain ⟨rfl,rfl⟩:=trodVars_none hV;have h0k:=h0;obtain ⟨fuel0,hf0⟩:=h0;have h1k:=h1;obtain ⟨fuel1,hf1⟩:=h1;clear hA0 hval0;simp only [List.append_nil] at hW';have hlt:∀ x∈p0++p1,x.block<W.heap.size:=fun x hx=>by simpa using hW'.lt x hx
  have hGl:=y17 hL hsh;have hF0:zX 26 d0:=fun x hx=>by
    have:=List.all_eq_true.1 hSz' x (DataW.weights_mem_each (j:=0) rfl rfl x hx);simpa using this
  obtain ⟨cs0,rfl,_⟩:=okWide_struct Zg (hval 0 26 v0 rfl rfl);obtain ⟨m0,vv0,vc0,vg0,hc0,hM0,hR0⟩:=y0I hf0 hF0;have hcell0:cs0=#[vv0,vc0,.bool m0.has,vg0]:=by
    have:=congrArg List.toArray hc0;simpa [Value.cells] using this
  subst hcell0;obtain ⟨x1,y1,z1,rfl⟩:=okWide_slice Zc (hval 1 27 v1 rfl rfl);obtain ⟨u1,l1,hu1,hM1,_⟩:=Xb hf1;have e1:u1=.slice x1 y1 z1:=by simpa [Value.cells] using hu1.symm
  subst e1;refine (y10 m0 vv0 vc0 vg0 _ l1 W hM0 hM1 hGl).mono fun e W' ⟨he,hb⟩=>?_
  subst he;exact ⟨_,rfl,_,_,_,[],_,[],hW',trodAll_mk1 (shut_bool Tryz.underlying4 true),trodAll_mk2 (Below.trod Xr (by kernel_rfl) (of_decide_eq_true (by kernel_rfl)) h0k hb (fun x hx=>hlt x (List.mem_append_left _ hx))) (Below.trod Xr (by kernel_rfl) (of_decide_eq_true (by kernel_rfl)) h1k hb (fun x hx=>hlt x (List.mem_append_right _ hx))),rfl,hb.frame _,fun h=>by cases h⟩
end Go.Proofs.YtjgghimjnbjlbaaGreatDoor

namespace Go.Proofs.YtjgghimjnbjlbaaGreatDoor
open Go.ChangeShapes Go.WideShapes Go.ChangeAt Go.RowKit
theorem y1a:Rows.AuditTrueSaid:=
  OpenClaim.holds_of_wide 3 Tryz.f3 rfl rfl rfl rfl rfl rfl rfl ⟨rfl,rfl,rfl,rfl,rfl⟩ rfl rfl rfl rfl rfl (by kernel_rfl) Tryz.func3 y0P
    (of_decide_eq_true (by kernel_rfl)) (by unfold Func.isWrapper;first | (rw [if_pos (by decide +kernel)];kernel_rfl) | (rw [if_neg (by decide +kernel)];exact ⟨rfl,rfl⟩))
    (fun os started H enc _=>y14 os started H enc)
end Go.Proofs.YtjgghimjnbjlbaaGreatDoor
