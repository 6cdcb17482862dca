/-
  Put together: AnLift, AnRow.
-/
import Derived.Test.YtjgghimjnbjlbaaGreatDoorJ49
import Derived.Test.YtjgghimjnbjlbaaGreatDoorJ52
import Derived.Test.YtjgghimjnbjlbaaGreatDoorK2
import Derived.Carry
import Derived.Test.YtjgghimjnbjlbaaGreatDoorAnFact
namespace Go.Proofs.YtjgghimjnbjlbaaGreatDoor
open Go.ChangeShapes Go.WideShapes Go.ChangeAt Go.RowKit Go.Deep
set_option maxRecDepth 100000
set_option maxHeartbeats 8000000
theorem laidOutAn:laidOutB Tryz.prog=true:=by kernel_rfl
theorem auditMore_lifted (os:Os) (started:os.Started) (H:Type) (enc:TypeId × Value->H) :
    ReturnsInHanded {} Tryz.checked os 5 .any (fun w args=>(Rows.auditMoreSpec.pre enc Tryz.prog Tryz.f5 [] false w args/\laidMetH Tryz.prog laid8 w)/\sizedMet enc Tryz.prog Tryz.f5 (OpenSpec.ofChange Rows.auditMoreSpec) false w args)
      (Rows.auditMoreSpec.post enc Tryz.prog Tryz.f5 false true false false):=by
  refine handed_shaped (C:=Tryz.checked) (X:=fun w _=>laidMetH Tryz.prog laid8 w) (fun _ _ _ hh h=>h.of_heap hh) own started (by kernel_rfl) Tryz.func5
    (ChangeSpec.witness_shaped (enc:=enc) (C:=Tryz.checked) (os:=os) (X:=fun w _=>laidMetH Tryz.prog laid8 w) false ((World.doorLaid Tryz.prog 400 os).layVars Tryz.prog laid7) #[.agg #[.slice none 0 0,.slice none 0 0,.bool false,.slice none 0 0],.agg #[.int .i64 0,.int .i64 0,.slice none 0 0,.int .i64 0,.int .i64 0,.int .i64 0,.int .i64 0,.slice none 0 0,.slice none 0 0,.slice none 0 0]] 8 (World.layVars_os _ _ _) (shape7 os _) (by kernel_rfl) (by kernel_rfl) (by kernel_rfl) (met7 os _)) ?_
  intro W base args ds gs before hval0 hW hSz hL hsh;have hval:∀ (j:Nat) t v,Tryz.f5.params[j]?=some t->args[j]?=some v->Value.okWide Tryz.prog W .any base t v:=hval0;have hW':=hW;obtain ⟨p,q,hA0,hV,rfl,hfz,hnd⟩:=hW;have hA:DataW.TrodAll enc Tryz.prog W 0 (fun _=>true) true Tryz.f5.params.toList args.toList ds p:=hA0;have hSz':(DataW.weightsEach Tryz.prog (Tryz.f5.params.toList++Rows.auditMoreSpec.plain.varTypes Tryz.prog) (ds++gs)).all (·<=reachBytes)=true:=hSz;rw [Tryz.params5] at hA hval hSz';obtain ⟨v0,v1,d0,d1,p0,p1,rfl,rfl,rfl,h0,h1⟩:=trodAll_two hA;obtain ⟨rfl,rfl⟩:=trodVars_none hV;have h0k:=h0;obtain ⟨fuel0,hf0⟩:=h0;have h1k:=h1;obtain ⟨fuel1,hf1⟩:=h1;clear hA0 hval0;simp only [List.append_nil] at hW';have hlt:∀ x∈p0++p1,x.block<W.heap.size:=fun x hx=>by simpa using hW'.lt x hx
  have hGl:=gl_of_laid hL hsh;have hF0:FitsD 26 d0:=fun x hx=>by
    have:=List.all_eq_true.1 hSz' x (DataW.weights_mem_each (j:=0) rfl rfl x hx);simpa using this
  obtain ⟨cs0,rfl,_⟩:=okWide_struct und26 (hval 0 26 v0 rfl rfl);obtain ⟨m0,vv0,vc0,vg0,hc0,hM0,hR0⟩:=mo_open4 hf0 hF0;have hcell0:cs0=#[vv0,vc0,.bool m0.has,vg0]:=by
    have:=congrArg List.toArray hc0;simpa [Value.cells] using this
  subst hcell0;obtain ⟨cs1,rfl,_⟩:=okWide_struct und62 (hval 1 51 v1 rfl rfl);obtain ⟨c1,vt1,vx1,vb1,vr1,hc1,hC1⟩:=con_open hf1;have hcell1:cs1=#[.int .i64 c1.kind,.int .i64 c1.op,vt1,.int .i64 c1.k,.int .i64 c1.v,.int .i64 c1.x,.int .i64 c1.y,vx1,vb1,vr1]:=by
    have:=congrArg List.toArray hc1;simpa [Value.cells] using this
  subst hcell1;refine (more_any m0 vv0 vc0 vg0 c1 vt1 vx1 vb1 vr1 W hM0 hC1 hGl).mono fun e W' ⟨he,hb⟩=>?_
  subst he;exact ⟨_,rfl,_,_,_,[],_,[],hW',trodAll_mk1 (shut_bool Tryz.underlying4 true),trodAll_mk2 (Below.trod laidOutAn (by kernel_rfl) (of_decide_eq_true (by kernel_rfl)) h0k hb (fun x hx=>hlt x (List.mem_append_left _ hx))) (Below.trod laidOutAn (by kernel_rfl) (of_decide_eq_true (by kernel_rfl)) h1k hb (fun x hx=>hlt x (List.mem_append_right _ hx))),rfl,hb.frame _,fun h=>by cases h⟩
end Go.Proofs.YtjgghimjnbjlbaaGreatDoor

namespace Go.Proofs.YtjgghimjnbjlbaaGreatDoor
open Go.ChangeShapes Go.WideShapes Go.ChangeAt Go.RowKit
theorem auditMore_row:Rows.AuditMoreSaid:=
  OpenClaim.holds_of_wide 5 Tryz.f5 rfl rfl rfl rfl rfl rfl rfl ⟨rfl,rfl,rfl,rfl,rfl⟩ rfl rfl rfl rfl rfl (by kernel_rfl) Tryz.func5 closedAn
    (of_decide_eq_true (by kernel_rfl)) (by unfold Func.isWrapper;first | (rw [if_pos (by decide +kernel)];kernel_rfl) | (rw [if_neg (by decide +kernel)];exact ⟨rfl,rfl⟩))
    (fun os started H enc _=>auditMore_lifted os started H enc)
end Go.Proofs.YtjgghimjnbjlbaaGreatDoor
