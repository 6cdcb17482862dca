import Derived.Test.YthohnmplbjhjaaaGreatDoorTfCard
import Derived.Test.YthohnmplbjhjaaaGreatDoorJ45
import Derived.Test.YthohnmplbjhjaaaGreatDoorMdOpenM
namespace Go.Proofs.YthohnmplbjhjaaaGreatDoor
open Go.ChangeShapes Go.WideShapes Go.ChangeAt Go.RowKit
open Go.ChangeMaps (open_string shut_string)
theorem y2y (a:ByteArray):yc a.data.toList=a:=by
 apply ByteArray.ext
 simp [yc]
set_option maxRecDepth 100000 in
theorem y2z (os:Os) (started:os.Started) (H:Type) (enc:TypeId × Value->H) :
  ReturnsInHanded {} Tryz.checked os 7 .any (fun w args=>(Rows.textOneSpec.pre enc Tryz.prog Tryz.f7 [] false w args/\laidMetH Tryz.prog laid6 w)/\sizedMet enc Tryz.prog Tryz.f7 (OpenSpec.ofChange Rows.textOneSpec) false w args)
   (Rows.textOneSpec.post enc Tryz.prog Tryz.f7 false true false false):=by
 refine y2b (C:=Tryz.checked) (X:=fun w _=>laidMetH Tryz.prog laid6 w) (fun _ _ _ hh h=>h.of_heap hh) own started (by kernel_rfl) Tryz.func7
  (ChangeSpec.witness_shaped (enc:=enc) (C:=Tryz.checked) (os:=os) (X:=fun w _=>laidMetH Tryz.prog laid6 w) false (World.laidAll Tryz.prog os laid6) #[.string ⟨#[]⟩,.agg #[.slice none 0 0,.slice none 0 0,.bool false,.slice none 0 0],.agg #[.slice none 0 0,.slice none 0 0,.bool false,.slice none 0 0]] 8 (World.laidAll_os _ _ _)
   (World.shaped_of_ZipB (by kernel_rfl) (by kernel_rfl)) (by kernel_rfl) (by kernel_rfl) (by kernel_rfl)
   (by rw [MakeChecks.laidMetH_plain _ _ _ (by kernel_rfl)];exact laidMet_laidAll _ (by kernel_rfl) (by kernel_rfl))) ?_
 intro W base args ds gs before hval0 hW hL hsh
 have hval:∀ (j:Nat) t v,Tryz.f7.params[j]?=some t->args[j]?=some v->Value.okWide Tryz.prog W .any base t v:=hval0
 have hW':=hW
 obtain ⟨p,q,hA0,hV,rfl,hfz,hnd⟩:=hW
 have hA:DataW.TrodAll enc Tryz.prog W 0 (fun _=>true) true Tryz.f7.params.toList args.toList ds p:=hA0
 rw [Tryz.params7] at hA hval
 obtain ⟨v0,v1,v2,d0,d1,d2,p0,p1,p2,rfl,rfl,rfl,h0,h1,h2⟩:=trodAll_three hA
 obtain ⟨rfl,rfl⟩:=trodVars_none hV
 have h1k:=h1
 have h2k:=h2
 obtain ⟨fuel,hf⟩:=h1
 obtain ⟨fuel2,hf2⟩:=h2
 obtain ⟨a1,rfl,rfl,rfl,w1⟩:=open_string Tryz.underlying9 (hval 0 9 v0 rfl rfl) h0
 clear hA0 hval0
 simp only [List.append_nil] at hW'
 have hlt1:∀ x∈p1,x.block<W.heap.size:=fun x hx=>by simpa using hW'.lt x (by simp [hx])
 have hlt2:∀ x∈p2,x.block<W.heap.size:=fun x hx=>by simpa using hW'.lt x (by simp [hx])
 have hWay:=y2a hL hsh
 obtain ⟨cs,rfl,hcs⟩:=okWide_struct ZT (hval 1 26 v1 rfl rfl)
 obtain ⟨m,vv,vc,vg,hc,hM⟩:=Q4 hf
 have hcell:cs=#[vv,vc,.bool m.has,vg]:=by
  have:=congrArg List.toArray hc
  simpa [Value.cells] using this
 subst hcell
 obtain ⟨cs2,rfl,hcs2⟩:=okWide_struct ZT (hval 2 26 v2 rfl rfl)
 obtain ⟨n,uv,uc,ug,hc2,hN⟩:=Q4 hf2
 have hcell2:cs2=#[uv,uc,.bool n.has,ug]:=by
  have:=congrArg List.toArray hc2
  simpa [Value.cells] using this
 subst hcell2
 have hC:=textOne_any a1.data.toList m n vv vc vg uv uc ug W hM hN hWay known_any
 rw [y2y] at hC
 refine hC.mono fun e W' ⟨he,hb⟩=>?_
 subst he
 exact ⟨_,rfl,_,_,_,[],_,[],hW',trodAll_mk1 (shut_bool Tryz.underlying4 _),trodAll_mk3 (shut_string Tryz.underlying9 w1) (Below.trod Qm (by kernel_rfl) (of_decide_eq_true (by kernel_rfl)) h1k hb hlt1) (Below.trod Qm (by kernel_rfl) (of_decide_eq_true (by kernel_rfl)) h2k hb hlt2),rfl,hb.frame _,fun h=>by cases h⟩
theorem y2A:Rows.TextOneSaid:=
 OpenClaim.holds_of_wide 7 Tryz.f7 rfl rfl rfl rfl rfl rfl rfl ⟨rfl,rfl,rfl,rfl,rfl⟩ rfl rfl rfl rfl rfl (by kernel_rfl) Tryz.func7 (by kernel_rfl)
  (of_decide_eq_true (by kernel_rfl)) (by unfold Func.isWrapper;first | (rw [if_pos (by decide +kernel)];kernel_rfl) | (rw [if_neg (by decide +kernel)];exact ⟨rfl,rfl⟩))
  (fun os started H enc _=>y2z os started H enc)
theorem textOne_holds:Rows.TextOneCardSaid:=
 Claim7.holds_tied_plain_at .later [] [.data, .data, .data, .data, .data, .pinned] true (true, "559d4cdd057d987cf6042d69102197e0bbb44b1a18f175f2ae7272b968a0ac9f") true
  y2A (fun _ h=>by cases h) (by kernel_rfl) (fun _ h=>by cases h) textOne_row_tie rfl ⟨rfl,rfl⟩ (by kernel_rfl) rfl
  (fun f fn hf hfn=>by
   obtain rfl : f = 7 := Option.some.inj ((show Tryz.prog.funcNamed "hallmark/hallmarklaw5.TextOne" = some 7 by kernel_rfl).symm.trans hf) |>.symm
   obtain rfl:fn=Tryz.f7:=(Option.some.inj (Tryz.func7.symm.trans hfn)).symm
   exact ⟨by kernel_rfl,fun j t ht=>by
    rw [Tryz.params7] at ht
    have hm:t∈[9,26,26]:=by simpa using Array.mem_of_getElem? ht
    have hall:([9,26,26].all fun u=>!Tryz.prog.wantsStandIn u)=true:=by kernel_rfl
    exact (show Tryz.prog.wantsStandIn t=false by simpa using List.all_eq_true.1 hall t hm)⟩)
  (by kernel_rfl)
end Go.Proofs.YthohnmplbjhjaaaGreatDoor
