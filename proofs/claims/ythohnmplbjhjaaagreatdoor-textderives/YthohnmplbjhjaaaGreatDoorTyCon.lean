import Derived.Test.YthohnmplbjhjaaaGreatDoorTyRegT
import Derived.Test.YthohnmplbjhjaaaGreatDoorJ34
namespace Go.Proofs.YthohnmplbjhjaaaGreatDoor
open Go Go.RowKit RegT
set_option maxRecDepth 10000
set_option maxHeartbeats 2000000
theorem xB {w:World} {N:Nat} {a0 a1 a2 a3 a4 a5 a6 a7 a8 a9:Value} {t:TypeId} (h:w.heap[N]?=some (.cells #[a0,a1,a2,a3,a4,a5,a6,a7,a8,a9] t (0,0))):w.cell? ⟨N,0,none⟩=some a0/\w.cell? ⟨N,1,none⟩=some a1/\w.cell? ⟨N,2,none⟩=some a2/\w.cell? ⟨N,3,none⟩=some a3/\w.cell? ⟨N,4,none⟩=some a4/\w.cell? ⟨N,5,none⟩=some a5/\w.cell? ⟨N,6,none⟩=some a6/\w.cell? ⟨N,7,none⟩=some a7/\w.cell? ⟨N,8,none⟩=some a8/\w.cell? ⟨N,9,none⟩=some a9:=
 ⟨yd h 0,yd h 1,yd h 2,yd h 3,yd h 4,yd h 5,yd h 6,yd h 7,yd h 8,yd h 9⟩
theorem y5y {p0 p1 p3 p4 p5 p6 q0 q1 q3 q4 q5 q6:Int} {pt px pb pr qt qx qb qr:Option Addr} {ptn ptc pxn pxc pbn pbc prn prc qtn qtc qxn qxc qbn qbc qrn qrc:Nat} (w:World) (HA:∀ w',Below w.heap.size w w'->Calls Tryz.prog 51 #[.agg #[.int .i64 p0,.int .i64 p1,.slice pt ptn ptc,.int .i64 p3,.int .i64 p4,.int .i64 p5,.int .i64 p6,.slice px pxn pxc,.slice pb pbn pbc,.slice pr prn prc]] w' fun e w2=>e=.returned (.agg #[.int .i64 p0,.int .i64 p1,.int .i64 p3,.int .i64 p4,.int .i64 p5,.int .i64 p6])/\Below w'.heap.size w' w2) (HB:∀ w',Below w.heap.size w w'->Calls Tryz.prog 51 #[.agg #[.int .i64 q0,.int .i64 q1,.slice qt qtn qtc,.int .i64 q3,.int .i64 q4,.int .i64 q5,.int .i64 q6,.slice qx qxn qxc,.slice qb qbn qbc,.slice qr qrn qrc]] w' fun e w2=>e=.returned (.agg #[.int .i64 q0,.int .i64 q1,.int .i64 q3,.int .i64 q4,.int .i64 q5,.int .i64 q6])/\Below w'.heap.size w' w2)
  (HPl:∀ W,(binOp .eql 122 (.agg #[.int .i64 p0,.int .i64 p1,.int .i64 p3,.int .i64 p4,.int .i64 p5,.int .i64 p6]) (.agg #[.int .i64 q0,.int .i64 q1,.int .i64 q3,.int .i64 q4,.int .i64 q5,.int .i64 q6])).run Tryz.prog W=.ok (.bool false) W) :
  Calls Tryz.prog 31 #[.agg #[.int .i64 p0,.int .i64 p1,.slice pt ptn ptc,.int .i64 p3,.int .i64 p4,.int .i64 p5,.int .i64 p6,.slice px pxn pxc,.slice pb pbn pbc,.slice pr prn prc],.agg #[.int .i64 q0,.int .i64 q1,.slice qt qtn qtc,.int .i64 q3,.int .i64 q4,.int .i64 q5,.int .i64 q6,.slice qx qxn qxc,.slice qb qbn qbc,.slice qr qrn qrc]] w fun e w'=>e=.returned (.bool false)/\Below w.heap.size w w':=by
 obtain ⟨V,hV⟩:∃ V,w.alloc (.cells #[.int .i64 p0,.int .i64 p1,.slice pt ptn ptc,.int .i64 p3,.int .i64 p4,.int .i64 p5,.int .i64 p6,.slice px pxn pxc,.slice pb pbn pbc,.slice pr prn prc] 61)=V:=⟨_,rfl⟩
 obtain ⟨X,hX⟩:∃ X,V.alloc (.cells #[.int .i64 q0,.int .i64 q1,.slice qt qtn qtc,.int .i64 q3,.int .i64 q4,.int .i64 q5,.int .i64 q6,.slice qx qxn qxc,.slice qb qbn qbc,.slice qr qrn qrc] 61)=X:=⟨_,rfl⟩
 obtain ⟨N1,hN1⟩:∃ N1,w.heap.size=N1:=⟨_,rfl⟩
 obtain ⟨N2,hN2⟩:∃ N2,V.heap.size=N2:=⟨_,rfl⟩
 have HBX:Hid (Below w.heap.size w X):=by
  show Below _ _ _
  rw [<-hX,<-hV]
  exact ((Below.refl _ _).alloc (Nat.le_refl _) _).alloc (by simp) _
 have HHd:Hid (∀ w',Below X.heap.size X w'->(w'.cell? ⟨N1,0,none⟩=some (.int .i64 p0)/\w'.cell? ⟨N1,1,none⟩=some (.int .i64 p1)/\w'.cell? ⟨N1,2,none⟩=some (.slice pt ptn ptc)/\w'.cell? ⟨N1,3,none⟩=some (.int .i64 p3)/\w'.cell? ⟨N1,4,none⟩=some (.int .i64 p4)/\w'.cell? ⟨N1,5,none⟩=some (.int .i64 p5)/\w'.cell? ⟨N1,6,none⟩=some (.int .i64 p6)/\w'.cell? ⟨N1,7,none⟩=some (.slice px pxn pxc)/\w'.cell? ⟨N1,8,none⟩=some (.slice pb pbn pbc)/\w'.cell? ⟨N1,9,none⟩=some (.slice pr prn prc))/\(w'.cell? ⟨N2,0,none⟩=some (.int .i64 q0)/\w'.cell? ⟨N2,1,none⟩=some (.int .i64 q1)/\w'.cell? ⟨N2,2,none⟩=some (.slice qt qtn qtc)/\w'.cell? ⟨N2,3,none⟩=some (.int .i64 q3)/\w'.cell? ⟨N2,4,none⟩=some (.int .i64 q4)/\w'.cell? ⟨N2,5,none⟩=some (.int .i64 q5)/\w'.cell? ⟨N2,6,none⟩=some (.int .i64 q6)/\w'.cell? ⟨N2,7,none⟩=some (.slice qx qxn qxc)/\w'.cell? ⟨N2,8,none⟩=some (.slice qb qbn qbc)/\w'.cell? ⟨N2,9,none⟩=some (.slice qr qrn qrc))):=fun w' hb=>by
  have gV:V.heap[N1]?=some (.cells #[.int .i64 p0,.int .i64 p1,.slice pt ptn ptc,.int .i64 p3,.int .i64 p4,.int .i64 p5,.int .i64 p6,.slice px pxn pxc,.slice pb pbn pbc,.slice pr prn prc] 61 (0,0)):=by rw [<-hV,<-hN1];exact heap_alloc_new w _
  have gX:X.heap[N2]?=some (.cells #[.int .i64 q0,.int .i64 q1,.slice qt qtn qtc,.int .i64 q3,.int .i64 q4,.int .i64 q5,.int .i64 q6,.slice qx qxn qxc,.slice qb qbn qbc,.slice qr qrn qrc] 61 (0,0)):=by rw [<-hX,<-hN2];exact heap_alloc_new V _
  have gV1:X.heap[N1]?=some (.cells #[.int .i64 p0,.int .i64 p1,.slice pt ptn ptc,.int .i64 p3,.int .i64 p4,.int .i64 p5,.int .i64 p6,.slice px pxn pxc,.slice pb pbn pbc,.slice pr prn prc] 61 (0,0)):=by rw [<-hX];exact (heap_alloc_old V _ (Array.getElem?_eq_some_iff.1 gV).1).trans gV
  exact ⟨xB ((hb.block _ (Array.getElem?_eq_some_iff.1 gV1).1).trans gV1),xB ((hb.block _ (Array.getElem?_eq_some_iff.1 gX).1).trans gX)⟩
 have ZHA:Hid (∀ w',Below X.heap.size X w'->Calls Tryz.prog 51 #[.agg #[.int .i64 p0,.int .i64 p1,.slice pt ptn ptc,.int .i64 p3,.int .i64 p4,.int .i64 p5,.int .i64 p6,.slice px pxn pxc,.slice pb pbn pbc,.slice pr prn prc]] w' fun e w2=>e=.returned (.agg #[.int .i64 p0,.int .i64 p1,.int .i64 p3,.int .i64 p4,.int .i64 p5,.int .i64 p6])/\Below w'.heap.size w' w2):=fun w' hb=>HA w' (yj HBX.out hb)
 have ZHB:Hid (∀ w',Below X.heap.size X w'->Calls Tryz.prog 51 #[.agg #[.int .i64 q0,.int .i64 q1,.slice qt qtn qtc,.int .i64 q3,.int .i64 q4,.int .i64 q5,.int .i64 q6,.slice qx qxn qxc,.slice qb qbn qbc,.slice qr qrn qrc]] w' fun e w2=>e=.returned (.agg #[.int .i64 q0,.int .i64 q1,.int .i64 q3,.int .i64 q4,.int .i64 q5,.int .i64 q6])/\Below w'.heap.size w' w2):=fun w' hb=>HB w' (yj HBX.out hb)
 clear HA HB
 go_enter Tryz.func31,Tryz.ntmps31
 go_upto_region 1 with fail
 try rw [hV]
 try rw [hN1]
 try rw [hX]
 try rw [hN2]
 clear hV hN1 hX hN2
 have HBd:Hid (Below X.heap.size X X.drew):=(Below.refl _ _).drew
 refine Y3 (fun w'=>(w'.cell? ⟨N1,0,none⟩=some (.int .i64 p0)/\w'.cell? ⟨N1,1,none⟩=some (.int .i64 p1)/\w'.cell? ⟨N1,2,none⟩=some (.slice pt ptn ptc)/\w'.cell? ⟨N1,3,none⟩=some (.int .i64 p3)/\w'.cell? ⟨N1,4,none⟩=some (.int .i64 p4)/\w'.cell? ⟨N1,5,none⟩=some (.int .i64 p5)/\w'.cell? ⟨N1,6,none⟩=some (.int .i64 p6)/\w'.cell? ⟨N1,7,none⟩=some (.slice px pxn pxc)/\w'.cell? ⟨N1,8,none⟩=some (.slice pb pbn pbc)/\w'.cell? ⟨N1,9,none⟩=some (.slice pr prn prc))/\(w'.cell? ⟨N2,0,none⟩=some (.int .i64 q0)/\w'.cell? ⟨N2,1,none⟩=some (.int .i64 q1)/\w'.cell? ⟨N2,2,none⟩=some (.slice qt qtn qtc)/\w'.cell? ⟨N2,3,none⟩=some (.int .i64 q3)/\w'.cell? ⟨N2,4,none⟩=some (.int .i64 q4)/\w'.cell? ⟨N2,5,none⟩=some (.int .i64 q5)/\w'.cell? ⟨N2,6,none⟩=some (.int .i64 q6)/\w'.cell? ⟨N2,7,none⟩=some (.slice qx qxn qxc)/\w'.cell? ⟨N2,8,none⟩=some (.slice qb qbn qbc)/\w'.cell? ⟨N2,9,none⟩=some (.slice qr qrn qrc))) (fun _=>True) [99] rfl ⟨HHd.out _ HBd.out,trivial⟩ (fun hHeld=>?_)
 generalize X.drew=U at HBd hHeld ⊢
 refine yg (i:=0) (oi:=⟨some 5,.load 61 (.tmp 2),_,_,_,_⟩) (v:=?v_aa) rfl (by kernel_rfl) (by kernel_rfl) (by kernel_rfl) (by kernel_rfl) (fun _ _ _ h=>h) (Or.inl ⟨by rfl,?hy_aa⟩) (by assumption) ?rest_aa
 case hy_aa=>(intro w hSw;(try dsimp only at hSw);go_simp;try (with_reducible rfl))
 try simp only [Act.put,List.setIfInBounds_toArray,List.set_cons_zero,List.set_cons_succ]
 refine yg (i:=2) (oi:=⟨some 7,.load 61 (.tmp 3),_,_,_,_⟩) (v:=?v_ab) rfl (by kernel_rfl) (by kernel_rfl) (by kernel_rfl) (by kernel_rfl) (fun _ _ _ h=>h) (Or.inl ⟨by rfl,?hy_ab⟩) (by assumption) ?rest_ab
 case hy_ab=>(intro w hSw;(try dsimp only at hSw);go_simp;try (with_reducible rfl))
 try simp only [Act.put,List.setIfInBounds_toArray,List.set_cons_zero,List.set_cons_succ]
 refine zh (i:=1) (o:=⟨some 6,.call { callee:=.value (.func 51),args:=#[(.tmp 5)],argTypes:=#[61] },_,_,_,_⟩) (by kernel_rfl) rfl (fun K hK=>?_)
 go_simp
 refine cZ (ZHA.out _ HBd.out) ?_
 rintro e w1 ⟨rfl,hbw1⟩
 go_wp2_with fail
 have HB1:Hid (Below X.heap.size X w1):=yj HBd.out hbw1
 clear hbw1 hHeld
 have hHeld:=(⟨HHd.out _ HB1.out,trivial⟩:_/\True)
 refine hK.out _ _ ⟨hHeld.1,fun _=>trivial⟩ ?_
 clear hK K
 refine zh (i:=3) (o:=⟨some 8,.call { callee:=.value (.func 51),args:=#[(.tmp 7)],argTypes:=#[61] },_,_,_,_⟩) (by kernel_rfl) rfl (fun K hK=>?_)
 go_simp
 refine cZ (ZHB.out _ HB1.out) ?_
 rintro e w3 ⟨rfl,hbw3⟩
 go_wp2_with fail
 have HB3:Hid (Below X.heap.size X w3):=yj HB1.out hbw3
 clear hbw3 hHeld
 have hHeld:=(⟨HHd.out _ HB3.out,trivial⟩:_/\True)
 refine hK.out _ _ ⟨hHeld.1,fun _=>trivial⟩ ?_
 clear hK K
 refine yg (i:=4) (oi:=⟨some 9,.binOp .eql 122 (.tmp 6) (.tmp 8) 122,_,_,_,_⟩) (v:=?v_ac) rfl (by kernel_rfl) (by kernel_rfl) (by kernel_rfl) (by kernel_rfl) (fun _ _ _ h=>h) (Or.inl ⟨by rfl,?hy_ac⟩) (by assumption) ?rest_ac
 case hy_ac=>(intro w hSw;(try dsimp only at hSw);go_simp;try (with_reducible rfl))
 try simp only [Act.put,List.setIfInBounds_toArray,List.set_cons_zero,List.set_cons_succ]
 refine yg (i:=5) (oi:=⟨some 10,.move (.tmp 9),_,_,_,_⟩) (v:=?v_ad) rfl (by kernel_rfl) (by kernel_rfl) (by kernel_rfl) (by kernel_rfl) (fun _ _ _ h=>h) (Or.inl ⟨by rfl,?hy_ad⟩) (by assumption) ?rest_ad
 case hy_ad=>(intro w hSw;(try dsimp only at hSw);go_simp;try (with_reducible rfl))
 try simp only [Act.put,List.setIfInBounds_toArray,List.set_cons_zero,List.set_cons_succ]
 refine yg (i:=6) (oi:=⟨some 11,.fieldAddr 61 (.tmp 2) 2,_,_,_,_⟩) (v:=undef) rfl (by kernel_rfl) (by kernel_rfl) (by kernel_rfl) (by kernel_rfl) (fun _ _ _ h=>h) (Or.inr ⟨by rfl,rfl⟩) (by assumption) ?rest_ae
 try simp only [Act.put,List.setIfInBounds_toArray,List.set_cons_zero,List.set_cons_succ]
 refine yg (i:=7) (oi:=⟨some 12,.load 24 (.tmp 11),_,_,_,_⟩) (v:=undef) rfl (by kernel_rfl) (by kernel_rfl) (by kernel_rfl) (by kernel_rfl) (fun _ _ _ h=>h) (Or.inr ⟨by rfl,rfl⟩) (by assumption) ?rest_af
 try simp only [Act.put,List.setIfInBounds_toArray,List.set_cons_zero,List.set_cons_succ]
 refine yg (i:=8) (oi:=⟨some 13,.fieldAddr 61 (.tmp 3) 2,_,_,_,_⟩) (v:=undef) rfl (by kernel_rfl) (by kernel_rfl) (by kernel_rfl) (by kernel_rfl) (fun _ _ _ h=>h) (Or.inr ⟨by rfl,rfl⟩) (by assumption) ?rest_ag
 try simp only [Act.put,List.setIfInBounds_toArray,List.set_cons_zero,List.set_cons_succ]
 refine yg (i:=9) (oi:=⟨some 14,.load 24 (.tmp 13),_,_,_,_⟩) (v:=undef) rfl (by kernel_rfl) (by kernel_rfl) (by kernel_rfl) (by kernel_rfl) (fun _ _ _ h=>h) (Or.inr ⟨by rfl,rfl⟩) (by assumption) ?rest_ah
 try simp only [Act.put,List.setIfInBounds_toArray,List.set_cons_zero,List.set_cons_succ]
 refine yg (i:=10) (oi:=⟨some 15,.call { callee:=.value (.func 32),args:=#[(.tmp 12),(.tmp 14)],argTypes:=#[24,24] },_,_,_,_⟩) (v:=undef) rfl (by kernel_rfl) (by kernel_rfl) (by kernel_rfl) (by kernel_rfl) (fun _ _ _ h=>h) (Or.inr ⟨by rfl,rfl⟩) (by assumption) ?rest_be
 try simp only [Act.put,List.setIfInBounds_toArray,List.set_cons_zero,List.set_cons_succ]
 refine yg (i:=11) (oi:=⟨some 16,.pick (.tmp 10) (.tmp 15) ((.const (.bool false))),_,_,_,_⟩) (v:=?v_bf) rfl (by kernel_rfl) (by kernel_rfl) (by kernel_rfl) (by kernel_rfl) (fun _ _ _ h=>h) (Or.inl ⟨by rfl,?hy_bf⟩) (by assumption) ?rest_bf
 case hy_bf=>(intro w hSw;(try dsimp only at hSw);go_simp;try (with_reducible rfl))
 try simp only [Act.put,List.setIfInBounds_toArray,List.set_cons_zero,List.set_cons_succ]
 refine yg (i:=12) (oi:=⟨some 17,.move (.tmp 16),_,_,_,_⟩) (v:=?v_bg) rfl (by kernel_rfl) (by kernel_rfl) (by kernel_rfl) (by kernel_rfl) (fun _ _ _ h=>h) (Or.inl ⟨by rfl,?hy_bg⟩) (by assumption) ?rest_bg
 case hy_bg=>(intro w hSw;(try dsimp only at hSw);go_simp;try (with_reducible rfl))
 try simp only [Act.put,List.setIfInBounds_toArray,List.set_cons_zero,List.set_cons_succ]
 refine yg (i:=13) (oi:=⟨some 18,.fieldAddr 61 (.tmp 2) 7,_,_,_,_⟩) (v:=undef) rfl (by kernel_rfl) (by kernel_rfl) (by kernel_rfl) (by kernel_rfl) (fun _ _ _ h=>h) (Or.inr ⟨by rfl,rfl⟩) (by assumption) ?rest_bh
 try simp only [Act.put,List.setIfInBounds_toArray,List.set_cons_zero,List.set_cons_succ]
 refine yg (i:=14) (oi:=⟨some 19,.load 58 (.tmp 18),_,_,_,_⟩) (v:=undef) rfl (by kernel_rfl) (by kernel_rfl) (by kernel_rfl) (by kernel_rfl) (fun _ _ _ h=>h) (Or.inr ⟨by rfl,rfl⟩) (by assumption) ?rest_bi
 try simp only [Act.put,List.setIfInBounds_toArray,List.set_cons_zero,List.set_cons_succ]
 refine yg (i:=15) (oi:=⟨some 20,.fieldAddr 61 (.tmp 3) 7,_,_,_,_⟩) (v:=undef) rfl (by kernel_rfl) (by kernel_rfl) (by kernel_rfl) (by kernel_rfl) (fun _ _ _ h=>h) (Or.inr ⟨by rfl,rfl⟩) (by assumption) ?rest_bj
 try simp only [Act.put,List.setIfInBounds_toArray,List.set_cons_zero,List.set_cons_succ]
 refine yg (i:=16) (oi:=⟨some 21,.load 58 (.tmp 20),_,_,_,_⟩) (v:=undef) rfl (by kernel_rfl) (by kernel_rfl) (by kernel_rfl) (by kernel_rfl) (fun _ _ _ h=>h) (Or.inr ⟨by rfl,rfl⟩) (by assumption) ?rest_bk
 try simp only [Act.put,List.setIfInBounds_toArray,List.set_cons_zero,List.set_cons_succ]
 refine yg (i:=17) (oi:=⟨some 22,.call { callee:=.value (.func 52),args:=#[(.tmp 19),(.tmp 21)],argTypes:=#[58,58] },_,_,_,_⟩) (v:=undef) rfl (by kernel_rfl) (by kernel_rfl) (by kernel_rfl) (by kernel_rfl) (fun _ _ _ h=>h) (Or.inr ⟨by rfl,rfl⟩) (by assumption) ?rest_bl
 try simp only [Act.put,List.setIfInBounds_toArray,List.set_cons_zero,List.set_cons_succ]
 refine yg (i:=18) (oi:=⟨some 23,.pick (.tmp 17) (.tmp 22) ((.const (.bool false))),_,_,_,_⟩) (v:=?v_bm) rfl (by kernel_rfl) (by kernel_rfl) (by kernel_rfl) (by kernel_rfl) (fun _ _ _ h=>h) (Or.inl ⟨by rfl,?hy_bm⟩) (by assumption) ?rest_bm
 case hy_bm=>(intro w hSw;(try dsimp only at hSw);go_simp;try (with_reducible rfl))
 try simp only [Act.put,List.setIfInBounds_toArray,List.set_cons_zero,List.set_cons_succ]
 refine yg (i:=19) (oi:=⟨some 24,.move (.tmp 23),_,_,_,_⟩) (v:=?v_bn) rfl (by kernel_rfl) (by kernel_rfl) (by kernel_rfl) (by kernel_rfl) (fun _ _ _ h=>h) (Or.inl ⟨by rfl,?hy_bn⟩) (by assumption) ?rest_bn
 case hy_bn=>(intro w hSw;(try dsimp only at hSw);go_simp;try (with_reducible rfl))
 try simp only [Act.put,List.setIfInBounds_toArray,List.set_cons_zero,List.set_cons_succ]
 refine yg (i:=20) (oi:=⟨some 25,.fieldAddr 61 (.tmp 2) 8,_,_,_,_⟩) (v:=undef) rfl (by kernel_rfl) (by kernel_rfl) (by kernel_rfl) (by kernel_rfl) (fun _ _ _ h=>h) (Or.inr ⟨by rfl,rfl⟩) (by assumption) ?rest_bo
 try simp only [Act.put,List.setIfInBounds_toArray,List.set_cons_zero,List.set_cons_succ]
 refine yg (i:=21) (oi:=⟨some 26,.load 58 (.tmp 25),_,_,_,_⟩) (v:=undef) rfl (by kernel_rfl) (by kernel_rfl) (by kernel_rfl) (by kernel_rfl) (fun _ _ _ h=>h) (Or.inr ⟨by rfl,rfl⟩) (by assumption) ?rest_bp
 try simp only [Act.put,List.setIfInBounds_toArray,List.set_cons_zero,List.set_cons_succ]
 refine yg (i:=22) (oi:=⟨some 27,.fieldAddr 61 (.tmp 3) 8,_,_,_,_⟩) (v:=undef) rfl (by kernel_rfl) (by kernel_rfl) (by kernel_rfl) (by kernel_rfl) (fun _ _ _ h=>h) (Or.inr ⟨by rfl,rfl⟩) (by assumption) ?rest_bq
 try simp only [Act.put,List.setIfInBounds_toArray,List.set_cons_zero,List.set_cons_succ]
 refine yg (i:=23) (oi:=⟨some 28,.load 58 (.tmp 27),_,_,_,_⟩) (v:=undef) rfl (by kernel_rfl) (by kernel_rfl) (by kernel_rfl) (by kernel_rfl) (fun _ _ _ h=>h) (Or.inr ⟨by rfl,rfl⟩) (by assumption) ?rest_br
 try simp only [Act.put,List.setIfInBounds_toArray,List.set_cons_zero,List.set_cons_succ]
 refine yg (i:=24) (oi:=⟨some 29,.call { callee:=.value (.func 52),args:=#[(.tmp 26),(.tmp 28)],argTypes:=#[58,58] },_,_,_,_⟩) (v:=undef) rfl (by kernel_rfl) (by kernel_rfl) (by kernel_rfl) (by kernel_rfl) (fun _ _ _ h=>h) (Or.inr ⟨by rfl,rfl⟩) (by assumption) ?rest_bs
 try simp only [Act.put,List.setIfInBounds_toArray,List.set_cons_zero,List.set_cons_succ]
 refine yg (i:=25) (oi:=⟨some 30,.pick (.tmp 24) (.tmp 29) ((.const (.bool false))),_,_,_,_⟩) (v:=?v_bt) rfl (by kernel_rfl) (by kernel_rfl) (by kernel_rfl) (by kernel_rfl) (fun _ _ _ h=>h) (Or.inl ⟨by rfl,?hy_bt⟩) (by assumption) ?rest_bt
 case hy_bt=>(intro w hSw;(try dsimp only at hSw);go_simp;try (with_reducible rfl))
 try simp only [Act.put,List.setIfInBounds_toArray,List.set_cons_zero,List.set_cons_succ]
 refine yg (i:=26) (oi:=⟨some 31,.move (.tmp 30),_,_,_,_⟩) (v:=?v_bu) rfl (by kernel_rfl) (by kernel_rfl) (by kernel_rfl) (by kernel_rfl) (fun _ _ _ h=>h) (Or.inl ⟨by rfl,?hy_bu⟩) (by assumption) ?rest_bu
 case hy_bu=>(intro w hSw;(try dsimp only at hSw);go_simp;try (with_reducible rfl))
 try simp only [Act.put,List.setIfInBounds_toArray,List.set_cons_zero,List.set_cons_succ]
 refine yg (i:=27) (oi:=⟨some 32,.fieldAddr 61 (.tmp 2) 9,_,_,_,_⟩) (v:=undef) rfl (by kernel_rfl) (by kernel_rfl) (by kernel_rfl) (by kernel_rfl) (fun _ _ _ h=>h) (Or.inr ⟨by rfl,rfl⟩) (by assumption) ?rest_bv
 try simp only [Act.put,List.setIfInBounds_toArray,List.set_cons_zero,List.set_cons_succ]
 refine yg (i:=28) (oi:=⟨some 33,.load 59 (.tmp 32),_,_,_,_⟩) (v:=undef) rfl (by kernel_rfl) (by kernel_rfl) (by kernel_rfl) (by kernel_rfl) (fun _ _ _ h=>h) (Or.inr ⟨by rfl,rfl⟩) (by assumption) ?rest_bw
 try simp only [Act.put,List.setIfInBounds_toArray,List.set_cons_zero,List.set_cons_succ]
 refine yg (i:=29) (oi:=⟨some 34,.fieldAddr 61 (.tmp 3) 9,_,_,_,_⟩) (v:=undef) rfl (by kernel_rfl) (by kernel_rfl) (by kernel_rfl) (by kernel_rfl) (fun _ _ _ h=>h) (Or.inr ⟨by rfl,rfl⟩) (by assumption) ?rest_bx
 try simp only [Act.put,List.setIfInBounds_toArray,List.set_cons_zero,List.set_cons_succ]
 refine yg (i:=30) (oi:=⟨some 35,.load 59 (.tmp 34),_,_,_,_⟩) (v:=undef) rfl (by kernel_rfl) (by kernel_rfl) (by kernel_rfl) (by kernel_rfl) (fun _ _ _ h=>h) (Or.inr ⟨by rfl,rfl⟩) (by assumption) ?rest_by
 try simp only [Act.put,List.setIfInBounds_toArray,List.set_cons_zero,List.set_cons_succ]
 refine yg (i:=31) (oi:=⟨some 36,.call { callee:=.value (.func 53),args:=#[(.tmp 33),(.tmp 35),Operand.func 52],argTypes:=#[59,59,124] },_,_,_,_⟩) (v:=undef) rfl (by kernel_rfl) (by kernel_rfl) (by kernel_rfl) (by kernel_rfl) (fun _ _ _ h=>h) (Or.inr ⟨by rfl,rfl⟩) (by assumption) ?rest_bz
 try simp only [Act.put,List.setIfInBounds_toArray,List.set_cons_zero,List.set_cons_succ]
 refine yg (i:=32) (oi:=⟨some 37,.pick (.tmp 31) (.tmp 36) ((.const (.bool false))),_,_,_,_⟩) (v:=?v_b0) rfl (by kernel_rfl) (by kernel_rfl) (by kernel_rfl) (by kernel_rfl) (fun _ _ _ h=>h) (Or.inl ⟨by rfl,?hy_b0⟩) (by assumption) ?rest_b0
 case hy_b0=>(intro w hSw;(try dsimp only at hSw);go_simp;try (with_reducible rfl))
 try simp only [Act.put,List.setIfInBounds_toArray,List.set_cons_zero,List.set_cons_succ]
 refine yg (i:=33) (oi:=⟨some 4,.assign (.tmp 37),_,_,_,_⟩) (v:=?v_b1) rfl (by kernel_rfl) (by kernel_rfl) (by kernel_rfl) (by kernel_rfl) (fun _ _ _ h=>h) (Or.inl ⟨by rfl,?hy_b1⟩) (by assumption) ?rest_b1
 case hy_b1=>(intro w hSw;(try dsimp only at hSw);go_simp;try (with_reducible rfl))
 try simp only [Act.put,List.setIfInBounds_toArray,List.set_cons_zero,List.set_cons_succ]
 refine Y4 (by kernel_rfl) ?_ _
 go_wp2_with fail
 go_ret
 exact ⟨rfl,yj HBX.out HB3.out⟩
theorem y5z {p0 p1 p3 p4 p5 p6 q0 q1 q3 q4 q5 q6:Int} {pt px pb pr qt qx qb qr:Option Addr} {ptn ptc pxn pxc pbn pbc prn prc qtn qtc qxn qxc qbn qbc qrn qrc:Nat} (w:World) (HA:∀ w',Below w.heap.size w w'->Calls Tryz.prog 51 #[.agg #[.int .i64 p0,.int .i64 p1,.slice pt ptn ptc,.int .i64 p3,.int .i64 p4,.int .i64 p5,.int .i64 p6,.slice px pxn pxc,.slice pb pbn pbc,.slice pr prn prc]] w' fun e w2=>e=.returned (.agg #[.int .i64 p0,.int .i64 p1,.int .i64 p3,.int .i64 p4,.int .i64 p5,.int .i64 p6])/\Below w'.heap.size w' w2) (HB:∀ w',Below w.heap.size w w'->Calls Tryz.prog 51 #[.agg #[.int .i64 q0,.int .i64 q1,.slice qt qtn qtc,.int .i64 q3,.int .i64 q4,.int .i64 q5,.int .i64 q6,.slice qx qxn qxc,.slice qb qbn qbc,.slice qr qrn qrc]] w' fun e w2=>e=.returned (.agg #[.int .i64 q0,.int .i64 q1,.int .i64 q3,.int .i64 q4,.int .i64 q5,.int .i64 q6])/\Below w'.heap.size w' w2)
  (HPl:∀ W,(binOp .eql 122 (.agg #[.int .i64 p0,.int .i64 p1,.int .i64 p3,.int .i64 p4,.int .i64 p5,.int .i64 p6]) (.agg #[.int .i64 q0,.int .i64 q1,.int .i64 q3,.int .i64 q4,.int .i64 q5,.int .i64 q6])).run Tryz.prog W=.ok (.bool true) W)
  (Ht:∀ w',Below w.heap.size w w'->Calls Tryz.prog 32 #[.slice pt ptn ptc,.slice qt qtn qtc] w' fun e w2=>e=.returned (.bool false)/\Below w'.heap.size w' w2) :
  Calls Tryz.prog 31 #[.agg #[.int .i64 p0,.int .i64 p1,.slice pt ptn ptc,.int .i64 p3,.int .i64 p4,.int .i64 p5,.int .i64 p6,.slice px pxn pxc,.slice pb pbn pbc,.slice pr prn prc],.agg #[.int .i64 q0,.int .i64 q1,.slice qt qtn qtc,.int .i64 q3,.int .i64 q4,.int .i64 q5,.int .i64 q6,.slice qx qxn qxc,.slice qb qbn qbc,.slice qr qrn qrc]] w fun e w'=>e=.returned (.bool false)/\Below w.heap.size w w':=by
 obtain ⟨V,hV⟩:∃ V,w.alloc (.cells #[.int .i64 p0,.int .i64 p1,.slice pt ptn ptc,.int .i64 p3,.int .i64 p4,.int .i64 p5,.int .i64 p6,.slice px pxn pxc,.slice pb pbn pbc,.slice pr prn prc] 61)=V:=⟨_,rfl⟩
 obtain ⟨X,hX⟩:∃ X,V.alloc (.cells #[.int .i64 q0,.int .i64 q1,.slice qt qtn qtc,.int .i64 q3,.int .i64 q4,.int .i64 q5,.int .i64 q6,.slice qx qxn qxc,.slice qb qbn qbc,.slice qr qrn qrc] 61)=X:=⟨_,rfl⟩
 obtain ⟨N1,hN1⟩:∃ N1,w.heap.size=N1:=⟨_,rfl⟩
 obtain ⟨N2,hN2⟩:∃ N2,V.heap.size=N2:=⟨_,rfl⟩
 have HBX:Hid (Below w.heap.size w X):=by
  show Below _ _ _
  rw [<-hX,<-hV]
  exact ((Below.refl _ _).alloc (Nat.le_refl _) _).alloc (by simp) _
 have HHd:Hid (∀ w',Below X.heap.size X w'->(w'.cell? ⟨N1,0,none⟩=some (.int .i64 p0)/\w'.cell? ⟨N1,1,none⟩=some (.int .i64 p1)/\w'.cell? ⟨N1,2,none⟩=some (.slice pt ptn ptc)/\w'.cell? ⟨N1,3,none⟩=some (.int .i64 p3)/\w'.cell? ⟨N1,4,none⟩=some (.int .i64 p4)/\w'.cell? ⟨N1,5,none⟩=some (.int .i64 p5)/\w'.cell? ⟨N1,6,none⟩=some (.int .i64 p6)/\w'.cell? ⟨N1,7,none⟩=some (.slice px pxn pxc)/\w'.cell? ⟨N1,8,none⟩=some (.slice pb pbn pbc)/\w'.cell? ⟨N1,9,none⟩=some (.slice pr prn prc))/\(w'.cell? ⟨N2,0,none⟩=some (.int .i64 q0)/\w'.cell? ⟨N2,1,none⟩=some (.int .i64 q1)/\w'.cell? ⟨N2,2,none⟩=some (.slice qt qtn qtc)/\w'.cell? ⟨N2,3,none⟩=some (.int .i64 q3)/\w'.cell? ⟨N2,4,none⟩=some (.int .i64 q4)/\w'.cell? ⟨N2,5,none⟩=some (.int .i64 q5)/\w'.cell? ⟨N2,6,none⟩=some (.int .i64 q6)/\w'.cell? ⟨N2,7,none⟩=some (.slice qx qxn qxc)/\w'.cell? ⟨N2,8,none⟩=some (.slice qb qbn qbc)/\w'.cell? ⟨N2,9,none⟩=some (.slice qr qrn qrc))):=fun w' hb=>by
  have gV:V.heap[N1]?=some (.cells #[.int .i64 p0,.int .i64 p1,.slice pt ptn ptc,.int .i64 p3,.int .i64 p4,.int .i64 p5,.int .i64 p6,.slice px pxn pxc,.slice pb pbn pbc,.slice pr prn prc] 61 (0,0)):=by rw [<-hV,<-hN1];exact heap_alloc_new w _
  have gX:X.heap[N2]?=some (.cells #[.int .i64 q0,.int .i64 q1,.slice qt qtn qtc,.int .i64 q3,.int .i64 q4,.int .i64 q5,.int .i64 q6,.slice qx qxn qxc,.slice qb qbn qbc,.slice qr qrn qrc] 61 (0,0)):=by rw [<-hX,<-hN2];exact heap_alloc_new V _
  have gV1:X.heap[N1]?=some (.cells #[.int .i64 p0,.int .i64 p1,.slice pt ptn ptc,.int .i64 p3,.int .i64 p4,.int .i64 p5,.int .i64 p6,.slice px pxn pxc,.slice pb pbn pbc,.slice pr prn prc] 61 (0,0)):=by rw [<-hX];exact (heap_alloc_old V _ (Array.getElem?_eq_some_iff.1 gV).1).trans gV
  exact ⟨xB ((hb.block _ (Array.getElem?_eq_some_iff.1 gV1).1).trans gV1),xB ((hb.block _ (Array.getElem?_eq_some_iff.1 gX).1).trans gX)⟩
 have ZHA:Hid (∀ w',Below X.heap.size X w'->Calls Tryz.prog 51 #[.agg #[.int .i64 p0,.int .i64 p1,.slice pt ptn ptc,.int .i64 p3,.int .i64 p4,.int .i64 p5,.int .i64 p6,.slice px pxn pxc,.slice pb pbn pbc,.slice pr prn prc]] w' fun e w2=>e=.returned (.agg #[.int .i64 p0,.int .i64 p1,.int .i64 p3,.int .i64 p4,.int .i64 p5,.int .i64 p6])/\Below w'.heap.size w' w2):=fun w' hb=>HA w' (yj HBX.out hb)
 have ZHB:Hid (∀ w',Below X.heap.size X w'->Calls Tryz.prog 51 #[.agg #[.int .i64 q0,.int .i64 q1,.slice qt qtn qtc,.int .i64 q3,.int .i64 q4,.int .i64 q5,.int .i64 q6,.slice qx qxn qxc,.slice qb qbn qbc,.slice qr qrn qrc]] w' fun e w2=>e=.returned (.agg #[.int .i64 q0,.int .i64 q1,.int .i64 q3,.int .i64 q4,.int .i64 q5,.int .i64 q6])/\Below w'.heap.size w' w2):=fun w' hb=>HB w' (yj HBX.out hb)
 have ZHt:Hid (∀ w',Below X.heap.size X w'->Calls Tryz.prog 32 #[.slice pt ptn ptc,.slice qt qtn qtc] w' fun e w2=>e=.returned (.bool false)/\Below w'.heap.size w' w2):=fun w' hb=>Ht w' (yj HBX.out hb)
 clear HA HB Ht
 go_enter Tryz.func31,Tryz.ntmps31
 go_upto_region 1 with fail
 try rw [hV]
 try rw [hN1]
 try rw [hX]
 try rw [hN2]
 clear hV hN1 hX hN2
 have HBd:Hid (Below X.heap.size X X.drew):=(Below.refl _ _).drew
 refine Y3 (fun w'=>(w'.cell? ⟨N1,0,none⟩=some (.int .i64 p0)/\w'.cell? ⟨N1,1,none⟩=some (.int .i64 p1)/\w'.cell? ⟨N1,2,none⟩=some (.slice pt ptn ptc)/\w'.cell? ⟨N1,3,none⟩=some (.int .i64 p3)/\w'.cell? ⟨N1,4,none⟩=some (.int .i64 p4)/\w'.cell? ⟨N1,5,none⟩=some (.int .i64 p5)/\w'.cell? ⟨N1,6,none⟩=some (.int .i64 p6)/\w'.cell? ⟨N1,7,none⟩=some (.slice px pxn pxc)/\w'.cell? ⟨N1,8,none⟩=some (.slice pb pbn pbc)/\w'.cell? ⟨N1,9,none⟩=some (.slice pr prn prc))/\(w'.cell? ⟨N2,0,none⟩=some (.int .i64 q0)/\w'.cell? ⟨N2,1,none⟩=some (.int .i64 q1)/\w'.cell? ⟨N2,2,none⟩=some (.slice qt qtn qtc)/\w'.cell? ⟨N2,3,none⟩=some (.int .i64 q3)/\w'.cell? ⟨N2,4,none⟩=some (.int .i64 q4)/\w'.cell? ⟨N2,5,none⟩=some (.int .i64 q5)/\w'.cell? ⟨N2,6,none⟩=some (.int .i64 q6)/\w'.cell? ⟨N2,7,none⟩=some (.slice qx qxn qxc)/\w'.cell? ⟨N2,8,none⟩=some (.slice qb qbn qbc)/\w'.cell? ⟨N2,9,none⟩=some (.slice qr qrn qrc))) (fun _=>True) [99] rfl ⟨HHd.out _ HBd.out,trivial⟩ (fun hHeld=>?_)
 generalize X.drew=U at HBd hHeld ⊢
 refine yg (i:=0) (oi:=⟨some 5,.load 61 (.tmp 2),_,_,_,_⟩) (v:=?v_ai) rfl (by kernel_rfl) (by kernel_rfl) (by kernel_rfl) (by kernel_rfl) (fun _ _ _ h=>h) (Or.inl ⟨by rfl,?hy_ai⟩) (by assumption) ?rest_ai
 case hy_ai=>(intro w hSw;(try dsimp only at hSw);go_simp;try (with_reducible rfl))
 try simp only [Act.put,List.setIfInBounds_toArray,List.set_cons_zero,List.set_cons_succ]
 refine yg (i:=2) (oi:=⟨some 7,.load 61 (.tmp 3),_,_,_,_⟩) (v:=?v_aj) rfl (by kernel_rfl) (by kernel_rfl) (by kernel_rfl) (by kernel_rfl) (fun _ _ _ h=>h) (Or.inl ⟨by rfl,?hy_aj⟩) (by assumption) ?rest_aj
 case hy_aj=>(intro w hSw;(try dsimp only at hSw);go_simp;try (with_reducible rfl))
 try simp only [Act.put,List.setIfInBounds_toArray,List.set_cons_zero,List.set_cons_succ]
 refine zh (i:=1) (o:=⟨some 6,.call { callee:=.value (.func 51),args:=#[(.tmp 5)],argTypes:=#[61] },_,_,_,_⟩) (by kernel_rfl) rfl (fun K hK=>?_)
 go_simp
 refine cZ (ZHA.out _ HBd.out) ?_
 rintro e w1 ⟨rfl,hbw1⟩
 go_wp2_with fail
 have HB1:Hid (Below X.heap.size X w1):=yj HBd.out hbw1
 clear hbw1 hHeld
 have hHeld:=(⟨HHd.out _ HB1.out,trivial⟩:_/\True)
 refine hK.out _ _ ⟨hHeld.1,fun _=>trivial⟩ ?_
 clear hK K
 refine zh (i:=3) (o:=⟨some 8,.call { callee:=.value (.func 51),args:=#[(.tmp 7)],argTypes:=#[61] },_,_,_,_⟩) (by kernel_rfl) rfl (fun K hK=>?_)
 go_simp
 refine cZ (ZHB.out _ HB1.out) ?_
 rintro e w3 ⟨rfl,hbw3⟩
 go_wp2_with fail
 have HB3:Hid (Below X.heap.size X w3):=yj HB1.out hbw3
 clear hbw3 hHeld
 have hHeld:=(⟨HHd.out _ HB3.out,trivial⟩:_/\True)
 refine hK.out _ _ ⟨hHeld.1,fun _=>trivial⟩ ?_
 clear hK K
 refine yg (i:=4) (oi:=⟨some 9,.binOp .eql 122 (.tmp 6) (.tmp 8) 122,_,_,_,_⟩) (v:=?v_ak) rfl (by kernel_rfl) (by kernel_rfl) (by kernel_rfl) (by kernel_rfl) (fun _ _ _ h=>h) (Or.inl ⟨by rfl,?hy_ak⟩) (by assumption) ?rest_ak
 case hy_ak=>(intro w hSw;(try dsimp only at hSw);go_simp;try (with_reducible rfl))
 try simp only [Act.put,List.setIfInBounds_toArray,List.set_cons_zero,List.set_cons_succ]
 refine yg (i:=5) (oi:=⟨some 10,.move (.tmp 9),_,_,_,_⟩) (v:=?v_al) rfl (by kernel_rfl) (by kernel_rfl) (by kernel_rfl) (by kernel_rfl) (fun _ _ _ h=>h) (Or.inl ⟨by rfl,?hy_al⟩) (by assumption) ?rest_al
 case hy_al=>(intro w hSw;(try dsimp only at hSw);go_simp;try (with_reducible rfl))
 try simp only [Act.put,List.setIfInBounds_toArray,List.set_cons_zero,List.set_cons_succ]
 refine yg (i:=6) (oi:=⟨some 11,.fieldAddr 61 (.tmp 2) 2,_,_,_,_⟩) (v:=?v_am) rfl (by kernel_rfl) (by kernel_rfl) (by kernel_rfl) (by kernel_rfl) (fun _ _ _ h=>h) (Or.inl ⟨by rfl,?hy_am⟩) (by assumption) ?rest_am
 case hy_am=>(intro w hSw;(try dsimp only at hSw);go_simp;try (with_reducible rfl))
 try simp only [Act.put,List.setIfInBounds_toArray,List.set_cons_zero,List.set_cons_succ]
 refine yg (i:=7) (oi:=⟨some 12,.load 24 (.tmp 11),_,_,_,_⟩) (v:=?v_an) rfl (by kernel_rfl) (by kernel_rfl) (by kernel_rfl) (by kernel_rfl) (fun _ _ _ h=>h) (Or.inl ⟨by rfl,?hy_an⟩) (by assumption) ?rest_an
 case hy_an=>(intro w hSw;(try dsimp only at hSw);go_simp;try (with_reducible rfl))
 try simp only [Act.put,List.setIfInBounds_toArray,List.set_cons_zero,List.set_cons_succ]
 refine yg (i:=8) (oi:=⟨some 13,.fieldAddr 61 (.tmp 3) 2,_,_,_,_⟩) (v:=?v_ao) rfl (by kernel_rfl) (by kernel_rfl) (by kernel_rfl) (by kernel_rfl) (fun _ _ _ h=>h) (Or.inl ⟨by rfl,?hy_ao⟩) (by assumption) ?rest_ao
 case hy_ao=>(intro w hSw;(try dsimp only at hSw);go_simp;try (with_reducible rfl))
 try simp only [Act.put,List.setIfInBounds_toArray,List.set_cons_zero,List.set_cons_succ]
 refine yg (i:=9) (oi:=⟨some 14,.load 24 (.tmp 13),_,_,_,_⟩) (v:=?v_ap) rfl (by kernel_rfl) (by kernel_rfl) (by kernel_rfl) (by kernel_rfl) (fun _ _ _ h=>h) (Or.inl ⟨by rfl,?hy_ap⟩) (by assumption) ?rest_ap
 case hy_ap=>(intro w hSw;(try dsimp only at hSw);go_simp;try (with_reducible rfl))
 try simp only [Act.put,List.setIfInBounds_toArray,List.set_cons_zero,List.set_cons_succ]
 refine zh (i:=10) (o:=⟨some 15,.call { callee:=.value (.func 32),args:=#[(.tmp 12),(.tmp 14)],argTypes:=#[24,24] },_,_,_,_⟩) (by kernel_rfl) rfl (fun K hK=>?_)
 go_simp
 refine cZ (ZHt.out _ HB3.out) ?_
 rintro e w10 ⟨rfl,hbw10⟩
 go_wp2_with fail
 have HB10:Hid (Below X.heap.size X w10):=yj HB3.out hbw10
 clear hbw10 hHeld
 have hHeld:=(⟨HHd.out _ HB10.out,trivial⟩:_/\True)
 refine hK.out _ _ ⟨hHeld.1,fun _=>trivial⟩ ?_
 clear hK K
 refine yg (i:=11) (oi:=⟨some 16,.pick (.tmp 10) (.tmp 15) ((.const (.bool false))),_,_,_,_⟩) (v:=?v_b2) rfl (by kernel_rfl) (by kernel_rfl) (by kernel_rfl) (by kernel_rfl) (fun _ _ _ h=>h) (Or.inl ⟨by rfl,?hy_b2⟩) (by assumption) ?rest_b2
 case hy_b2=>(intro w hSw;(try dsimp only at hSw);go_simp;try (with_reducible rfl))
 try simp only [Act.put,List.setIfInBounds_toArray,List.set_cons_zero,List.set_cons_succ]
 refine yg (i:=12) (oi:=⟨some 17,.move (.tmp 16),_,_,_,_⟩) (v:=?v_b3) rfl (by kernel_rfl) (by kernel_rfl) (by kernel_rfl) (by kernel_rfl) (fun _ _ _ h=>h) (Or.inl ⟨by rfl,?hy_b3⟩) (by assumption) ?rest_b3
 case hy_b3=>(intro w hSw;(try dsimp only at hSw);go_simp;try (with_reducible rfl))
 try simp only [Act.put,List.setIfInBounds_toArray,List.set_cons_zero,List.set_cons_succ]
 refine yg (i:=13) (oi:=⟨some 18,.fieldAddr 61 (.tmp 2) 7,_,_,_,_⟩) (v:=undef) rfl (by kernel_rfl) (by kernel_rfl) (by kernel_rfl) (by kernel_rfl) (fun _ _ _ h=>h) (Or.inr ⟨by rfl,rfl⟩) (by assumption) ?rest_b4
 try simp only [Act.put,List.setIfInBounds_toArray,List.set_cons_zero,List.set_cons_succ]
 refine yg (i:=14) (oi:=⟨some 19,.load 58 (.tmp 18),_,_,_,_⟩) (v:=undef) rfl (by kernel_rfl) (by kernel_rfl) (by kernel_rfl) (by kernel_rfl) (fun _ _ _ h=>h) (Or.inr ⟨by rfl,rfl⟩) (by assumption) ?rest_b5
 try simp only [Act.put,List.setIfInBounds_toArray,List.set_cons_zero,List.set_cons_succ]
 refine yg (i:=15) (oi:=⟨some 20,.fieldAddr 61 (.tmp 3) 7,_,_,_,_⟩) (v:=undef) rfl (by kernel_rfl) (by kernel_rfl) (by kernel_rfl) (by kernel_rfl) (fun _ _ _ h=>h) (Or.inr ⟨by rfl,rfl⟩) (by assumption) ?rest_b6
 try simp only [Act.put,List.setIfInBounds_toArray,List.set_cons_zero,List.set_cons_succ]
 refine yg (i:=16) (oi:=⟨some 21,.load 58 (.tmp 20),_,_,_,_⟩) (v:=undef) rfl (by kernel_rfl) (by kernel_rfl) (by kernel_rfl) (by kernel_rfl) (fun _ _ _ h=>h) (Or.inr ⟨by rfl,rfl⟩) (by assumption) ?rest_b7
 try simp only [Act.put,List.setIfInBounds_toArray,List.set_cons_zero,List.set_cons_succ]
 refine yg (i:=17) (oi:=⟨some 22,.call { callee:=.value (.func 52),args:=#[(.tmp 19),(.tmp 21)],argTypes:=#[58,58] },_,_,_,_⟩) (v:=undef) rfl (by kernel_rfl) (by kernel_rfl) (by kernel_rfl) (by kernel_rfl) (fun _ _ _ h=>h) (Or.inr ⟨by rfl,rfl⟩) (by assumption) ?rest_b8
 try simp only [Act.put,List.setIfInBounds_toArray,List.set_cons_zero,List.set_cons_succ]
 refine yg (i:=18) (oi:=⟨some 23,.pick (.tmp 17) (.tmp 22) ((.const (.bool false))),_,_,_,_⟩) (v:=?v_b9) rfl (by kernel_rfl) (by kernel_rfl) (by kernel_rfl) (by kernel_rfl) (fun _ _ _ h=>h) (Or.inl ⟨by rfl,?hy_b9⟩) (by assumption) ?rest_b9
 case hy_b9=>(intro w hSw;(try dsimp only at hSw);go_simp;try (with_reducible rfl))
 try simp only [Act.put,List.setIfInBounds_toArray,List.set_cons_zero,List.set_cons_succ]
 refine yg (i:=19) (oi:=⟨some 24,.move (.tmp 23),_,_,_,_⟩) (v:=?v_ca) rfl (by kernel_rfl) (by kernel_rfl) (by kernel_rfl) (by kernel_rfl) (fun _ _ _ h=>h) (Or.inl ⟨by rfl,?hy_ca⟩) (by assumption) ?rest_ca
 case hy_ca=>(intro w hSw;(try dsimp only at hSw);go_simp;try (with_reducible rfl))
 try simp only [Act.put,List.setIfInBounds_toArray,List.set_cons_zero,List.set_cons_succ]
 refine yg (i:=20) (oi:=⟨some 25,.fieldAddr 61 (.tmp 2) 8,_,_,_,_⟩) (v:=undef) rfl (by kernel_rfl) (by kernel_rfl) (by kernel_rfl) (by kernel_rfl) (fun _ _ _ h=>h) (Or.inr ⟨by rfl,rfl⟩) (by assumption) ?rest_cb
 try simp only [Act.put,List.setIfInBounds_toArray,List.set_cons_zero,List.set_cons_succ]
 refine yg (i:=21) (oi:=⟨some 26,.load 58 (.tmp 25),_,_,_,_⟩) (v:=undef) rfl (by kernel_rfl) (by kernel_rfl) (by kernel_rfl) (by kernel_rfl) (fun _ _ _ h=>h) (Or.inr ⟨by rfl,rfl⟩) (by assumption) ?rest_cc
 try simp only [Act.put,List.setIfInBounds_toArray,List.set_cons_zero,List.set_cons_succ]
 refine yg (i:=22) (oi:=⟨some 27,.fieldAddr 61 (.tmp 3) 8,_,_,_,_⟩) (v:=undef) rfl (by kernel_rfl) (by kernel_rfl) (by kernel_rfl) (by kernel_rfl) (fun _ _ _ h=>h) (Or.inr ⟨by rfl,rfl⟩) (by assumption) ?rest_cd
 try simp only [Act.put,List.setIfInBounds_toArray,List.set_cons_zero,List.set_cons_succ]
 refine yg (i:=23) (oi:=⟨some 28,.load 58 (.tmp 27),_,_,_,_⟩) (v:=undef) rfl (by kernel_rfl) (by kernel_rfl) (by kernel_rfl) (by kernel_rfl) (fun _ _ _ h=>h) (Or.inr ⟨by rfl,rfl⟩) (by assumption) ?rest_ce
 try simp only [Act.put,List.setIfInBounds_toArray,List.set_cons_zero,List.set_cons_succ]
 refine yg (i:=24) (oi:=⟨some 29,.call { callee:=.value (.func 52),args:=#[(.tmp 26),(.tmp 28)],argTypes:=#[58,58] },_,_,_,_⟩) (v:=undef) rfl (by kernel_rfl) (by kernel_rfl) (by kernel_rfl) (by kernel_rfl) (fun _ _ _ h=>h) (Or.inr ⟨by rfl,rfl⟩) (by assumption) ?rest_cf
 try simp only [Act.put,List.setIfInBounds_toArray,List.set_cons_zero,List.set_cons_succ]
 refine yg (i:=25) (oi:=⟨some 30,.pick (.tmp 24) (.tmp 29) ((.const (.bool false))),_,_,_,_⟩) (v:=?v_cg) rfl (by kernel_rfl) (by kernel_rfl) (by kernel_rfl) (by kernel_rfl) (fun _ _ _ h=>h) (Or.inl ⟨by rfl,?hy_cg⟩) (by assumption) ?rest_cg
 case hy_cg=>(intro w hSw;(try dsimp only at hSw);go_simp;try (with_reducible rfl))
 try simp only [Act.put,List.setIfInBounds_toArray,List.set_cons_zero,List.set_cons_succ]
 refine yg (i:=26) (oi:=⟨some 31,.move (.tmp 30),_,_,_,_⟩) (v:=?v_ch) rfl (by kernel_rfl) (by kernel_rfl) (by kernel_rfl) (by kernel_rfl) (fun _ _ _ h=>h) (Or.inl ⟨by rfl,?hy_ch⟩) (by assumption) ?rest_ch
 case hy_ch=>(intro w hSw;(try dsimp only at hSw);go_simp;try (with_reducible rfl))
 try simp only [Act.put,List.setIfInBounds_toArray,List.set_cons_zero,List.set_cons_succ]
 refine yg (i:=27) (oi:=⟨some 32,.fieldAddr 61 (.tmp 2) 9,_,_,_,_⟩) (v:=undef) rfl (by kernel_rfl) (by kernel_rfl) (by kernel_rfl) (by kernel_rfl) (fun _ _ _ h=>h) (Or.inr ⟨by rfl,rfl⟩) (by assumption) ?rest_ci
 try simp only [Act.put,List.setIfInBounds_toArray,List.set_cons_zero,List.set_cons_succ]
 refine yg (i:=28) (oi:=⟨some 33,.load 59 (.tmp 32),_,_,_,_⟩) (v:=undef) rfl (by kernel_rfl) (by kernel_rfl) (by kernel_rfl) (by kernel_rfl) (fun _ _ _ h=>h) (Or.inr ⟨by rfl,rfl⟩) (by assumption) ?rest_cj
 try simp only [Act.put,List.setIfInBounds_toArray,List.set_cons_zero,List.set_cons_succ]
 refine yg (i:=29) (oi:=⟨some 34,.fieldAddr 61 (.tmp 3) 9,_,_,_,_⟩) (v:=undef) rfl (by kernel_rfl) (by kernel_rfl) (by kernel_rfl) (by kernel_rfl) (fun _ _ _ h=>h) (Or.inr ⟨by rfl,rfl⟩) (by assumption) ?rest_ck
 try simp only [Act.put,List.setIfInBounds_toArray,List.set_cons_zero,List.set_cons_succ]
 refine yg (i:=30) (oi:=⟨some 35,.load 59 (.tmp 34),_,_,_,_⟩) (v:=undef) rfl (by kernel_rfl) (by kernel_rfl) (by kernel_rfl) (by kernel_rfl) (fun _ _ _ h=>h) (Or.inr ⟨by rfl,rfl⟩) (by assumption) ?rest_cl
 try simp only [Act.put,List.setIfInBounds_toArray,List.set_cons_zero,List.set_cons_succ]
 refine yg (i:=31) (oi:=⟨some 36,.call { callee:=.value (.func 53),args:=#[(.tmp 33),(.tmp 35),Operand.func 52],argTypes:=#[59,59,124] },_,_,_,_⟩) (v:=undef) rfl (by kernel_rfl) (by kernel_rfl) (by kernel_rfl) (by kernel_rfl) (fun _ _ _ h=>h) (Or.inr ⟨by rfl,rfl⟩) (by assumption) ?rest_cm
 try simp only [Act.put,List.setIfInBounds_toArray,List.set_cons_zero,List.set_cons_succ]
 refine yg (i:=32) (oi:=⟨some 37,.pick (.tmp 31) (.tmp 36) ((.const (.bool false))),_,_,_,_⟩) (v:=?v_cn) rfl (by kernel_rfl) (by kernel_rfl) (by kernel_rfl) (by kernel_rfl) (fun _ _ _ h=>h) (Or.inl ⟨by rfl,?hy_cn⟩) (by assumption) ?rest_cn
 case hy_cn=>(intro w hSw;(try dsimp only at hSw);go_simp;try (with_reducible rfl))
 try simp only [Act.put,List.setIfInBounds_toArray,List.set_cons_zero,List.set_cons_succ]
 refine yg (i:=33) (oi:=⟨some 4,.assign (.tmp 37),_,_,_,_⟩) (v:=?v_co) rfl (by kernel_rfl) (by kernel_rfl) (by kernel_rfl) (by kernel_rfl) (fun _ _ _ h=>h) (Or.inl ⟨by rfl,?hy_co⟩) (by assumption) ?rest_co
 case hy_co=>(intro w hSw;(try dsimp only at hSw);go_simp;try (with_reducible rfl))
 try simp only [Act.put,List.setIfInBounds_toArray,List.set_cons_zero,List.set_cons_succ]
 refine Y4 (by kernel_rfl) ?_ _
 go_wp2_with fail
 go_ret
 exact ⟨rfl,yj HBX.out HB10.out⟩
theorem y5A {p0 p1 p3 p4 p5 p6 q0 q1 q3 q4 q5 q6:Int} {pt px pb pr qt qx qb qr:Option Addr} {ptn ptc pxn pxc pbn pbc prn prc qtn qtc qxn qxc qbn qbc qrn qrc:Nat} (w:World) (HA:∀ w',Below w.heap.size w w'->Calls Tryz.prog 51 #[.agg #[.int .i64 p0,.int .i64 p1,.slice pt ptn ptc,.int .i64 p3,.int .i64 p4,.int .i64 p5,.int .i64 p6,.slice px pxn pxc,.slice pb pbn pbc,.slice pr prn prc]] w' fun e w2=>e=.returned (.agg #[.int .i64 p0,.int .i64 p1,.int .i64 p3,.int .i64 p4,.int .i64 p5,.int .i64 p6])/\Below w'.heap.size w' w2) (HB:∀ w',Below w.heap.size w w'->Calls Tryz.prog 51 #[.agg #[.int .i64 q0,.int .i64 q1,.slice qt qtn qtc,.int .i64 q3,.int .i64 q4,.int .i64 q5,.int .i64 q6,.slice qx qxn qxc,.slice qb qbn qbc,.slice qr qrn qrc]] w' fun e w2=>e=.returned (.agg #[.int .i64 q0,.int .i64 q1,.int .i64 q3,.int .i64 q4,.int .i64 q5,.int .i64 q6])/\Below w'.heap.size w' w2)
  (HPl:∀ W,(binOp .eql 122 (.agg #[.int .i64 p0,.int .i64 p1,.int .i64 p3,.int .i64 p4,.int .i64 p5,.int .i64 p6]) (.agg #[.int .i64 q0,.int .i64 q1,.int .i64 q3,.int .i64 q4,.int .i64 q5,.int .i64 q6])).run Tryz.prog W=.ok (.bool true) W)
  (Ht:∀ w',Below w.heap.size w w'->Calls Tryz.prog 32 #[.slice pt ptn ptc,.slice qt qtn qtc] w' fun e w2=>e=.returned (.bool true)/\Below w'.heap.size w' w2)
  (Hx:∀ w',Below w.heap.size w w'->Calls Tryz.prog 52 #[.slice px pxn pxc,.slice qx qxn qxc] w' fun e w2=>e=.returned (.bool false)/\Below w'.heap.size w' w2) :
  Calls Tryz.prog 31 #[.agg #[.int .i64 p0,.int .i64 p1,.slice pt ptn ptc,.int .i64 p3,.int .i64 p4,.int .i64 p5,.int .i64 p6,.slice px pxn pxc,.slice pb pbn pbc,.slice pr prn prc],.agg #[.int .i64 q0,.int .i64 q1,.slice qt qtn qtc,.int .i64 q3,.int .i64 q4,.int .i64 q5,.int .i64 q6,.slice qx qxn qxc,.slice qb qbn qbc,.slice qr qrn qrc]] w fun e w'=>e=.returned (.bool false)/\Below w.heap.size w w':=by
 obtain ⟨V,hV⟩:∃ V,w.alloc (.cells #[.int .i64 p0,.int .i64 p1,.slice pt ptn ptc,.int .i64 p3,.int .i64 p4,.int .i64 p5,.int .i64 p6,.slice px pxn pxc,.slice pb pbn pbc,.slice pr prn prc] 61)=V:=⟨_,rfl⟩
 obtain ⟨X,hX⟩:∃ X,V.alloc (.cells #[.int .i64 q0,.int .i64 q1,.slice qt qtn qtc,.int .i64 q3,.int .i64 q4,.int .i64 q5,.int .i64 q6,.slice qx qxn qxc,.slice qb qbn qbc,.slice qr qrn qrc] 61)=X:=⟨_,rfl⟩
 obtain ⟨N1,hN1⟩:∃ N1,w.heap.size=N1:=⟨_,rfl⟩
 obtain ⟨N2,hN2⟩:∃ N2,V.heap.size=N2:=⟨_,rfl⟩
 have HBX:Hid (Below w.heap.size w X):=by
  show Below _ _ _
  rw [<-hX,<-hV]
  exact ((Below.refl _ _).alloc (Nat.le_refl _) _).alloc (by simp) _
 have HHd:Hid (∀ w',Below X.heap.size X w'->(w'.cell? ⟨N1,0,none⟩=some (.int .i64 p0)/\w'.cell? ⟨N1,1,none⟩=some (.int .i64 p1)/\w'.cell? ⟨N1,2,none⟩=some (.slice pt ptn ptc)/\w'.cell? ⟨N1,3,none⟩=some (.int .i64 p3)/\w'.cell? ⟨N1,4,none⟩=some (.int .i64 p4)/\w'.cell? ⟨N1,5,none⟩=some (.int .i64 p5)/\w'.cell? ⟨N1,6,none⟩=some (.int .i64 p6)/\w'.cell? ⟨N1,7,none⟩=some (.slice px pxn pxc)/\w'.cell? ⟨N1,8,none⟩=some (.slice pb pbn pbc)/\w'.cell? ⟨N1,9,none⟩=some (.slice pr prn prc))/\(w'.cell? ⟨N2,0,none⟩=some (.int .i64 q0)/\w'.cell? ⟨N2,1,none⟩=some (.int .i64 q1)/\w'.cell? ⟨N2,2,none⟩=some (.slice qt qtn qtc)/\w'.cell? ⟨N2,3,none⟩=some (.int .i64 q3)/\w'.cell? ⟨N2,4,none⟩=some (.int .i64 q4)/\w'.cell? ⟨N2,5,none⟩=some (.int .i64 q5)/\w'.cell? ⟨N2,6,none⟩=some (.int .i64 q6)/\w'.cell? ⟨N2,7,none⟩=some (.slice qx qxn qxc)/\w'.cell? ⟨N2,8,none⟩=some (.slice qb qbn qbc)/\w'.cell? ⟨N2,9,none⟩=some (.slice qr qrn qrc))):=fun w' hb=>by
  have gV:V.heap[N1]?=some (.cells #[.int .i64 p0,.int .i64 p1,.slice pt ptn ptc,.int .i64 p3,.int .i64 p4,.int .i64 p5,.int .i64 p6,.slice px pxn pxc,.slice pb pbn pbc,.slice pr prn prc] 61 (0,0)):=by rw [<-hV,<-hN1];exact heap_alloc_new w _
  have gX:X.heap[N2]?=some (.cells #[.int .i64 q0,.int .i64 q1,.slice qt qtn qtc,.int .i64 q3,.int .i64 q4,.int .i64 q5,.int .i64 q6,.slice qx qxn qxc,.slice qb qbn qbc,.slice qr qrn qrc] 61 (0,0)):=by rw [<-hX,<-hN2];exact heap_alloc_new V _
  have gV1:X.heap[N1]?=some (.cells #[.int .i64 p0,.int .i64 p1,.slice pt ptn ptc,.int .i64 p3,.int .i64 p4,.int .i64 p5,.int .i64 p6,.slice px pxn pxc,.slice pb pbn pbc,.slice pr prn prc] 61 (0,0)):=by rw [<-hX];exact (heap_alloc_old V _ (Array.getElem?_eq_some_iff.1 gV).1).trans gV
  exact ⟨xB ((hb.block _ (Array.getElem?_eq_some_iff.1 gV1).1).trans gV1),xB ((hb.block _ (Array.getElem?_eq_some_iff.1 gX).1).trans gX)⟩
 have ZHA:Hid (∀ w',Below X.heap.size X w'->Calls Tryz.prog 51 #[.agg #[.int .i64 p0,.int .i64 p1,.slice pt ptn ptc,.int .i64 p3,.int .i64 p4,.int .i64 p5,.int .i64 p6,.slice px pxn pxc,.slice pb pbn pbc,.slice pr prn prc]] w' fun e w2=>e=.returned (.agg #[.int .i64 p0,.int .i64 p1,.int .i64 p3,.int .i64 p4,.int .i64 p5,.int .i64 p6])/\Below w'.heap.size w' w2):=fun w' hb=>HA w' (yj HBX.out hb)
 have ZHB:Hid (∀ w',Below X.heap.size X w'->Calls Tryz.prog 51 #[.agg #[.int .i64 q0,.int .i64 q1,.slice qt qtn qtc,.int .i64 q3,.int .i64 q4,.int .i64 q5,.int .i64 q6,.slice qx qxn qxc,.slice qb qbn qbc,.slice qr qrn qrc]] w' fun e w2=>e=.returned (.agg #[.int .i64 q0,.int .i64 q1,.int .i64 q3,.int .i64 q4,.int .i64 q5,.int .i64 q6])/\Below w'.heap.size w' w2):=fun w' hb=>HB w' (yj HBX.out hb)
 have ZHt:Hid (∀ w',Below X.heap.size X w'->Calls Tryz.prog 32 #[.slice pt ptn ptc,.slice qt qtn qtc] w' fun e w2=>e=.returned (.bool true)/\Below w'.heap.size w' w2):=fun w' hb=>Ht w' (yj HBX.out hb)
 have ZHx:Hid (∀ w',Below X.heap.size X w'->Calls Tryz.prog 52 #[.slice px pxn pxc,.slice qx qxn qxc] w' fun e w2=>e=.returned (.bool false)/\Below w'.heap.size w' w2):=fun w' hb=>Hx w' (yj HBX.out hb)
 clear HA HB Ht Hx
 go_enter Tryz.func31,Tryz.ntmps31
 go_upto_region 1 with fail
 try rw [hV]
 try rw [hN1]
 try rw [hX]
 try rw [hN2]
 clear hV hN1 hX hN2
 have HBd:Hid (Below X.heap.size X X.drew):=(Below.refl _ _).drew
 refine Y3 (fun w'=>(w'.cell? ⟨N1,0,none⟩=some (.int .i64 p0)/\w'.cell? ⟨N1,1,none⟩=some (.int .i64 p1)/\w'.cell? ⟨N1,2,none⟩=some (.slice pt ptn ptc)/\w'.cell? ⟨N1,3,none⟩=some (.int .i64 p3)/\w'.cell? ⟨N1,4,none⟩=some (.int .i64 p4)/\w'.cell? ⟨N1,5,none⟩=some (.int .i64 p5)/\w'.cell? ⟨N1,6,none⟩=some (.int .i64 p6)/\w'.cell? ⟨N1,7,none⟩=some (.slice px pxn pxc)/\w'.cell? ⟨N1,8,none⟩=some (.slice pb pbn pbc)/\w'.cell? ⟨N1,9,none⟩=some (.slice pr prn prc))/\(w'.cell? ⟨N2,0,none⟩=some (.int .i64 q0)/\w'.cell? ⟨N2,1,none⟩=some (.int .i64 q1)/\w'.cell? ⟨N2,2,none⟩=some (.slice qt qtn qtc)/\w'.cell? ⟨N2,3,none⟩=some (.int .i64 q3)/\w'.cell? ⟨N2,4,none⟩=some (.int .i64 q4)/\w'.cell? ⟨N2,5,none⟩=some (.int .i64 q5)/\w'.cell? ⟨N2,6,none⟩=some (.int .i64 q6)/\w'.cell? ⟨N2,7,none⟩=some (.slice qx qxn qxc)/\w'.cell? ⟨N2,8,none⟩=some (.slice qb qbn qbc)/\w'.cell? ⟨N2,9,none⟩=some (.slice qr qrn qrc))) (fun _=>True) [99] rfl ⟨HHd.out _ HBd.out,trivial⟩ (fun hHeld=>?_)
 generalize X.drew=U at HBd hHeld ⊢
 refine yg (i:=0) (oi:=⟨some 5,.load 61 (.tmp 2),_,_,_,_⟩) (v:=?v_aq) rfl (by kernel_rfl) (by kernel_rfl) (by kernel_rfl) (by kernel_rfl) (fun _ _ _ h=>h) (Or.inl ⟨by rfl,?hy_aq⟩) (by assumption) ?rest_aq
 case hy_aq=>(intro w hSw;(try dsimp only at hSw);go_simp;try (with_reducible rfl))
 try simp only [Act.put,List.setIfInBounds_toArray,List.set_cons_zero,List.set_cons_succ]
 refine yg (i:=2) (oi:=⟨some 7,.load 61 (.tmp 3),_,_,_,_⟩) (v:=?v_ar) rfl (by kernel_rfl) (by kernel_rfl) (by kernel_rfl) (by kernel_rfl) (fun _ _ _ h=>h) (Or.inl ⟨by rfl,?hy_ar⟩) (by assumption) ?rest_ar
 case hy_ar=>(intro w hSw;(try dsimp only at hSw);go_simp;try (with_reducible rfl))
 try simp only [Act.put,List.setIfInBounds_toArray,List.set_cons_zero,List.set_cons_succ]
 refine zh (i:=1) (o:=⟨some 6,.call { callee:=.value (.func 51),args:=#[(.tmp 5)],argTypes:=#[61] },_,_,_,_⟩) (by kernel_rfl) rfl (fun K hK=>?_)
 go_simp
 refine cZ (ZHA.out _ HBd.out) ?_
 rintro e w1 ⟨rfl,hbw1⟩
 go_wp2_with fail
 have HB1:Hid (Below X.heap.size X w1):=yj HBd.out hbw1
 clear hbw1 hHeld
 have hHeld:=(⟨HHd.out _ HB1.out,trivial⟩:_/\True)
 refine hK.out _ _ ⟨hHeld.1,fun _=>trivial⟩ ?_
 clear hK K
 refine zh (i:=3) (o:=⟨some 8,.call { callee:=.value (.func 51),args:=#[(.tmp 7)],argTypes:=#[61] },_,_,_,_⟩) (by kernel_rfl) rfl (fun K hK=>?_)
 go_simp
 refine cZ (ZHB.out _ HB1.out) ?_
 rintro e w3 ⟨rfl,hbw3⟩
 go_wp2_with fail
 have HB3:Hid (Below X.heap.size X w3):=yj HB1.out hbw3
 clear hbw3 hHeld
 have hHeld:=(⟨HHd.out _ HB3.out,trivial⟩:_/\True)
 refine hK.out _ _ ⟨hHeld.1,fun _=>trivial⟩ ?_
 clear hK K
 refine yg (i:=4) (oi:=⟨some 9,.binOp .eql 122 (.tmp 6) (.tmp 8) 122,_,_,_,_⟩) (v:=?v_as) rfl (by kernel_rfl) (by kernel_rfl) (by kernel_rfl) (by kernel_rfl) (fun _ _ _ h=>h) (Or.inl ⟨by rfl,?hy_as⟩) (by assumption) ?rest_as
 case hy_as=>(intro w hSw;(try dsimp only at hSw);go_simp;try (with_reducible rfl))
 try simp only [Act.put,List.setIfInBounds_toArray,List.set_cons_zero,List.set_cons_succ]
 refine yg (i:=5) (oi:=⟨some 10,.move (.tmp 9),_,_,_,_⟩) (v:=?v_at) rfl (by kernel_rfl) (by kernel_rfl) (by kernel_rfl) (by kernel_rfl) (fun _ _ _ h=>h) (Or.inl ⟨by rfl,?hy_at⟩) (by assumption) ?rest_at
 case hy_at=>(intro w hSw;(try dsimp only at hSw);go_simp;try (with_reducible rfl))
 try simp only [Act.put,List.setIfInBounds_toArray,List.set_cons_zero,List.set_cons_succ]
 refine yg (i:=6) (oi:=⟨some 11,.fieldAddr 61 (.tmp 2) 2,_,_,_,_⟩) (v:=?v_au) rfl (by kernel_rfl) (by kernel_rfl) (by kernel_rfl) (by kernel_rfl) (fun _ _ _ h=>h) (Or.inl ⟨by rfl,?hy_au⟩) (by assumption) ?rest_au
 case hy_au=>(intro w hSw;(try dsimp only at hSw);go_simp;try (with_reducible rfl))
 try simp only [Act.put,List.setIfInBounds_toArray,List.set_cons_zero,List.set_cons_succ]
 refine yg (i:=7) (oi:=⟨some 12,.load 24 (.tmp 11),_,_,_,_⟩) (v:=?v_av) rfl (by kernel_rfl) (by kernel_rfl) (by kernel_rfl) (by kernel_rfl) (fun _ _ _ h=>h) (Or.inl ⟨by rfl,?hy_av⟩) (by assumption) ?rest_av
 case hy_av=>(intro w hSw;(try dsimp only at hSw);go_simp;try (with_reducible rfl))
 try simp only [Act.put,List.setIfInBounds_toArray,List.set_cons_zero,List.set_cons_succ]
 refine yg (i:=8) (oi:=⟨some 13,.fieldAddr 61 (.tmp 3) 2,_,_,_,_⟩) (v:=?v_aw) rfl (by kernel_rfl) (by kernel_rfl) (by kernel_rfl) (by kernel_rfl) (fun _ _ _ h=>h) (Or.inl ⟨by rfl,?hy_aw⟩) (by assumption) ?rest_aw
 case hy_aw=>(intro w hSw;(try dsimp only at hSw);go_simp;try (with_reducible rfl))
 try simp only [Act.put,List.setIfInBounds_toArray,List.set_cons_zero,List.set_cons_succ]
 refine yg (i:=9) (oi:=⟨some 14,.load 24 (.tmp 13),_,_,_,_⟩) (v:=?v_ax) rfl (by kernel_rfl) (by kernel_rfl) (by kernel_rfl) (by kernel_rfl) (fun _ _ _ h=>h) (Or.inl ⟨by rfl,?hy_ax⟩) (by assumption) ?rest_ax
 case hy_ax=>(intro w hSw;(try dsimp only at hSw);go_simp;try (with_reducible rfl))
 try simp only [Act.put,List.setIfInBounds_toArray,List.set_cons_zero,List.set_cons_succ]
 refine zh (i:=10) (o:=⟨some 15,.call { callee:=.value (.func 32),args:=#[(.tmp 12),(.tmp 14)],argTypes:=#[24,24] },_,_,_,_⟩) (by kernel_rfl) rfl (fun K hK=>?_)
 go_simp
 refine cZ (ZHt.out _ HB3.out) ?_
 rintro e w10 ⟨rfl,hbw10⟩
 go_wp2_with fail
 have HB10:Hid (Below X.heap.size X w10):=yj HB3.out hbw10
 clear hbw10 hHeld
 have hHeld:=(⟨HHd.out _ HB10.out,trivial⟩:_/\True)
 refine hK.out _ _ ⟨hHeld.1,fun _=>trivial⟩ ?_
 clear hK K
 refine yg (i:=11) (oi:=⟨some 16,.pick (.tmp 10) (.tmp 15) ((.const (.bool false))),_,_,_,_⟩) (v:=?v_cp) rfl (by kernel_rfl) (by kernel_rfl) (by kernel_rfl) (by kernel_rfl) (fun _ _ _ h=>h) (Or.inl ⟨by rfl,?hy_cp⟩) (by assumption) ?rest_cp
 case hy_cp=>(intro w hSw;(try dsimp only at hSw);go_simp;try (with_reducible rfl))
 try simp only [Act.put,List.setIfInBounds_toArray,List.set_cons_zero,List.set_cons_succ]
 refine yg (i:=12) (oi:=⟨some 17,.move (.tmp 16),_,_,_,_⟩) (v:=?v_cq) rfl (by kernel_rfl) (by kernel_rfl) (by kernel_rfl) (by kernel_rfl) (fun _ _ _ h=>h) (Or.inl ⟨by rfl,?hy_cq⟩) (by assumption) ?rest_cq
 case hy_cq=>(intro w hSw;(try dsimp only at hSw);go_simp;try (with_reducible rfl))
 try simp only [Act.put,List.setIfInBounds_toArray,List.set_cons_zero,List.set_cons_succ]
 refine yg (i:=13) (oi:=⟨some 18,.fieldAddr 61 (.tmp 2) 7,_,_,_,_⟩) (v:=?v_cr) rfl (by kernel_rfl) (by kernel_rfl) (by kernel_rfl) (by kernel_rfl) (fun _ _ _ h=>h) (Or.inl ⟨by rfl,?hy_cr⟩) (by assumption) ?rest_cr
 case hy_cr=>(intro w hSw;(try dsimp only at hSw);go_simp;try (with_reducible rfl))
 try simp only [Act.put,List.setIfInBounds_toArray,List.set_cons_zero,List.set_cons_succ]
 refine yg (i:=14) (oi:=⟨some 19,.load 58 (.tmp 18),_,_,_,_⟩) (v:=?v_cs) rfl (by kernel_rfl) (by kernel_rfl) (by kernel_rfl) (by kernel_rfl) (fun _ _ _ h=>h) (Or.inl ⟨by rfl,?hy_cs⟩) (by assumption) ?rest_cs
 case hy_cs=>(intro w hSw;(try dsimp only at hSw);go_simp;try (with_reducible rfl))
 try simp only [Act.put,List.setIfInBounds_toArray,List.set_cons_zero,List.set_cons_succ]
 refine yg (i:=15) (oi:=⟨some 20,.fieldAddr 61 (.tmp 3) 7,_,_,_,_⟩) (v:=?v_ct) rfl (by kernel_rfl) (by kernel_rfl) (by kernel_rfl) (by kernel_rfl) (fun _ _ _ h=>h) (Or.inl ⟨by rfl,?hy_ct⟩) (by assumption) ?rest_ct
 case hy_ct=>(intro w hSw;(try dsimp only at hSw);go_simp;try (with_reducible rfl))
 try simp only [Act.put,List.setIfInBounds_toArray,List.set_cons_zero,List.set_cons_succ]
 refine yg (i:=16) (oi:=⟨some 21,.load 58 (.tmp 20),_,_,_,_⟩) (v:=?v_cu) rfl (by kernel_rfl) (by kernel_rfl) (by kernel_rfl) (by kernel_rfl) (fun _ _ _ h=>h) (Or.inl ⟨by rfl,?hy_cu⟩) (by assumption) ?rest_cu
 case hy_cu=>(intro w hSw;(try dsimp only at hSw);go_simp;try (with_reducible rfl))
 try simp only [Act.put,List.setIfInBounds_toArray,List.set_cons_zero,List.set_cons_succ]
 refine zh (i:=17) (o:=⟨some 22,.call { callee:=.value (.func 52),args:=#[(.tmp 19),(.tmp 21)],argTypes:=#[58,58] },_,_,_,_⟩) (by kernel_rfl) rfl (fun K hK=>?_)
 go_simp
 refine cZ (ZHx.out _ HB10.out) ?_
 rintro e w17 ⟨rfl,hbw17⟩
 go_wp2_with fail
 have HB17:Hid (Below X.heap.size X w17):=yj HB10.out hbw17
 clear hbw17 hHeld
 have hHeld:=(⟨HHd.out _ HB17.out,trivial⟩:_/\True)
 refine hK.out _ _ ⟨hHeld.1,fun _=>trivial⟩ ?_
 clear hK K
 refine yg (i:=18) (oi:=⟨some 23,.pick (.tmp 17) (.tmp 22) ((.const (.bool false))),_,_,_,_⟩) (v:=?v_cv) rfl (by kernel_rfl) (by kernel_rfl) (by kernel_rfl) (by kernel_rfl) (fun _ _ _ h=>h) (Or.inl ⟨by rfl,?hy_cv⟩) (by assumption) ?rest_cv
 case hy_cv=>(intro w hSw;(try dsimp only at hSw);go_simp;try (with_reducible rfl))
 try simp only [Act.put,List.setIfInBounds_toArray,List.set_cons_zero,List.set_cons_succ]
 refine yg (i:=19) (oi:=⟨some 24,.move (.tmp 23),_,_,_,_⟩) (v:=?v_cw) rfl (by kernel_rfl) (by kernel_rfl) (by kernel_rfl) (by kernel_rfl) (fun _ _ _ h=>h) (Or.inl ⟨by rfl,?hy_cw⟩) (by assumption) ?rest_cw
 case hy_cw=>(intro w hSw;(try dsimp only at hSw);go_simp;try (with_reducible rfl))
 try simp only [Act.put,List.setIfInBounds_toArray,List.set_cons_zero,List.set_cons_succ]
 refine yg (i:=20) (oi:=⟨some 25,.fieldAddr 61 (.tmp 2) 8,_,_,_,_⟩) (v:=undef) rfl (by kernel_rfl) (by kernel_rfl) (by kernel_rfl) (by kernel_rfl) (fun _ _ _ h=>h) (Or.inr ⟨by rfl,rfl⟩) (by assumption) ?rest_cx
 try simp only [Act.put,List.setIfInBounds_toArray,List.set_cons_zero,List.set_cons_succ]
 refine yg (i:=21) (oi:=⟨some 26,.load 58 (.tmp 25),_,_,_,_⟩) (v:=undef) rfl (by kernel_rfl) (by kernel_rfl) (by kernel_rfl) (by kernel_rfl) (fun _ _ _ h=>h) (Or.inr ⟨by rfl,rfl⟩) (by assumption) ?rest_cy
 try simp only [Act.put,List.setIfInBounds_toArray,List.set_cons_zero,List.set_cons_succ]
 refine yg (i:=22) (oi:=⟨some 27,.fieldAddr 61 (.tmp 3) 8,_,_,_,_⟩) (v:=undef) rfl (by kernel_rfl) (by kernel_rfl) (by kernel_rfl) (by kernel_rfl) (fun _ _ _ h=>h) (Or.inr ⟨by rfl,rfl⟩) (by assumption) ?rest_cz
 try simp only [Act.put,List.setIfInBounds_toArray,List.set_cons_zero,List.set_cons_succ]
 refine yg (i:=23) (oi:=⟨some 28,.load 58 (.tmp 27),_,_,_,_⟩) (v:=undef) rfl (by kernel_rfl) (by kernel_rfl) (by kernel_rfl) (by kernel_rfl) (fun _ _ _ h=>h) (Or.inr ⟨by rfl,rfl⟩) (by assumption) ?rest_c0
 try simp only [Act.put,List.setIfInBounds_toArray,List.set_cons_zero,List.set_cons_succ]
 refine yg (i:=24) (oi:=⟨some 29,.call { callee:=.value (.func 52),args:=#[(.tmp 26),(.tmp 28)],argTypes:=#[58,58] },_,_,_,_⟩) (v:=undef) rfl (by kernel_rfl) (by kernel_rfl) (by kernel_rfl) (by kernel_rfl) (fun _ _ _ h=>h) (Or.inr ⟨by rfl,rfl⟩) (by assumption) ?rest_c1
 try simp only [Act.put,List.setIfInBounds_toArray,List.set_cons_zero,List.set_cons_succ]
 refine yg (i:=25) (oi:=⟨some 30,.pick (.tmp 24) (.tmp 29) ((.const (.bool false))),_,_,_,_⟩) (v:=?v_c2) rfl (by kernel_rfl) (by kernel_rfl) (by kernel_rfl) (by kernel_rfl) (fun _ _ _ h=>h) (Or.inl ⟨by rfl,?hy_c2⟩) (by assumption) ?rest_c2
 case hy_c2=>(intro w hSw;(try dsimp only at hSw);go_simp;try (with_reducible rfl))
 try simp only [Act.put,List.setIfInBounds_toArray,List.set_cons_zero,List.set_cons_succ]
 refine yg (i:=26) (oi:=⟨some 31,.move (.tmp 30),_,_,_,_⟩) (v:=?v_c3) rfl (by kernel_rfl) (by kernel_rfl) (by kernel_rfl) (by kernel_rfl) (fun _ _ _ h=>h) (Or.inl ⟨by rfl,?hy_c3⟩) (by assumption) ?rest_c3
 case hy_c3=>(intro w hSw;(try dsimp only at hSw);go_simp;try (with_reducible rfl))
 try simp only [Act.put,List.setIfInBounds_toArray,List.set_cons_zero,List.set_cons_succ]
 refine yg (i:=27) (oi:=⟨some 32,.fieldAddr 61 (.tmp 2) 9,_,_,_,_⟩) (v:=undef) rfl (by kernel_rfl) (by kernel_rfl) (by kernel_rfl) (by kernel_rfl) (fun _ _ _ h=>h) (Or.inr ⟨by rfl,rfl⟩) (by assumption) ?rest_c4
 try simp only [Act.put,List.setIfInBounds_toArray,List.set_cons_zero,List.set_cons_succ]
 refine yg (i:=28) (oi:=⟨some 33,.load 59 (.tmp 32),_,_,_,_⟩) (v:=undef) rfl (by kernel_rfl) (by kernel_rfl) (by kernel_rfl) (by kernel_rfl) (fun _ _ _ h=>h) (Or.inr ⟨by rfl,rfl⟩) (by assumption) ?rest_c5
 try simp only [Act.put,List.setIfInBounds_toArray,List.set_cons_zero,List.set_cons_succ]
 refine yg (i:=29) (oi:=⟨some 34,.fieldAddr 61 (.tmp 3) 9,_,_,_,_⟩) (v:=undef) rfl (by kernel_rfl) (by kernel_rfl) (by kernel_rfl) (by kernel_rfl) (fun _ _ _ h=>h) (Or.inr ⟨by rfl,rfl⟩) (by assumption) ?rest_c6
 try simp only [Act.put,List.setIfInBounds_toArray,List.set_cons_zero,List.set_cons_succ]
 refine yg (i:=30) (oi:=⟨some 35,.load 59 (.tmp 34),_,_,_,_⟩) (v:=undef) rfl (by kernel_rfl) (by kernel_rfl) (by kernel_rfl) (by kernel_rfl) (fun _ _ _ h=>h) (Or.inr ⟨by rfl,rfl⟩) (by assumption) ?rest_c7
 try simp only [Act.put,List.setIfInBounds_toArray,List.set_cons_zero,List.set_cons_succ]
 refine yg (i:=31) (oi:=⟨some 36,.call { callee:=.value (.func 53),args:=#[(.tmp 33),(.tmp 35),Operand.func 52],argTypes:=#[59,59,124] },_,_,_,_⟩) (v:=undef) rfl (by kernel_rfl) (by kernel_rfl) (by kernel_rfl) (by kernel_rfl) (fun _ _ _ h=>h) (Or.inr ⟨by rfl,rfl⟩) (by assumption) ?rest_c8
 try simp only [Act.put,List.setIfInBounds_toArray,List.set_cons_zero,List.set_cons_succ]
 refine yg (i:=32) (oi:=⟨some 37,.pick (.tmp 31) (.tmp 36) ((.const (.bool false))),_,_,_,_⟩) (v:=?v_c9) rfl (by kernel_rfl) (by kernel_rfl) (by kernel_rfl) (by kernel_rfl) (fun _ _ _ h=>h) (Or.inl ⟨by rfl,?hy_c9⟩) (by assumption) ?rest_c9
 case hy_c9=>(intro w hSw;(try dsimp only at hSw);go_simp;try (with_reducible rfl))
 try simp only [Act.put,List.setIfInBounds_toArray,List.set_cons_zero,List.set_cons_succ]
 refine yg (i:=33) (oi:=⟨some 4,.assign (.tmp 37),_,_,_,_⟩) (v:=?v_da) rfl (by kernel_rfl) (by kernel_rfl) (by kernel_rfl) (by kernel_rfl) (fun _ _ _ h=>h) (Or.inl ⟨by rfl,?hy_da⟩) (by assumption) ?rest_da
 case hy_da=>(intro w hSw;(try dsimp only at hSw);go_simp;try (with_reducible rfl))
 try simp only [Act.put,List.setIfInBounds_toArray,List.set_cons_zero,List.set_cons_succ]
 refine Y4 (by kernel_rfl) ?_ _
 go_wp2_with fail
 go_ret
 exact ⟨rfl,yj HBX.out HB17.out⟩
theorem y5B {p0 p1 p3 p4 p5 p6 q0 q1 q3 q4 q5 q6:Int} {pt px pb pr qt qx qb qr:Option Addr} {ptn ptc pxn pxc pbn pbc prn prc qtn qtc qxn qxc qbn qbc qrn qrc:Nat} (w:World) (HA:∀ w',Below w.heap.size w w'->Calls Tryz.prog 51 #[.agg #[.int .i64 p0,.int .i64 p1,.slice pt ptn ptc,.int .i64 p3,.int .i64 p4,.int .i64 p5,.int .i64 p6,.slice px pxn pxc,.slice pb pbn pbc,.slice pr prn prc]] w' fun e w2=>e=.returned (.agg #[.int .i64 p0,.int .i64 p1,.int .i64 p3,.int .i64 p4,.int .i64 p5,.int .i64 p6])/\Below w'.heap.size w' w2) (HB:∀ w',Below w.heap.size w w'->Calls Tryz.prog 51 #[.agg #[.int .i64 q0,.int .i64 q1,.slice qt qtn qtc,.int .i64 q3,.int .i64 q4,.int .i64 q5,.int .i64 q6,.slice qx qxn qxc,.slice qb qbn qbc,.slice qr qrn qrc]] w' fun e w2=>e=.returned (.agg #[.int .i64 q0,.int .i64 q1,.int .i64 q3,.int .i64 q4,.int .i64 q5,.int .i64 q6])/\Below w'.heap.size w' w2)
  (HPl:∀ W,(binOp .eql 122 (.agg #[.int .i64 p0,.int .i64 p1,.int .i64 p3,.int .i64 p4,.int .i64 p5,.int .i64 p6]) (.agg #[.int .i64 q0,.int .i64 q1,.int .i64 q3,.int .i64 q4,.int .i64 q5,.int .i64 q6])).run Tryz.prog W=.ok (.bool true) W)
  (Ht:∀ w',Below w.heap.size w w'->Calls Tryz.prog 32 #[.slice pt ptn ptc,.slice qt qtn qtc] w' fun e w2=>e=.returned (.bool true)/\Below w'.heap.size w' w2)
  (Hx:∀ w',Below w.heap.size w w'->Calls Tryz.prog 52 #[.slice px pxn pxc,.slice qx qxn qxc] w' fun e w2=>e=.returned (.bool true)/\Below w'.heap.size w' w2)
  (Hb:∀ w',Below w.heap.size w w'->Calls Tryz.prog 52 #[.slice pb pbn pbc,.slice qb qbn qbc] w' fun e w2=>e=.returned (.bool false)/\Below w'.heap.size w' w2) :
  Calls Tryz.prog 31 #[.agg #[.int .i64 p0,.int .i64 p1,.slice pt ptn ptc,.int .i64 p3,.int .i64 p4,.int .i64 p5,.int .i64 p6,.slice px pxn pxc,.slice pb pbn pbc,.slice pr prn prc],.agg #[.int .i64 q0,.int .i64 q1,.slice qt qtn qtc,.int .i64 q3,.int .i64 q4,.int .i64 q5,.int .i64 q6,.slice qx qxn qxc,.slice qb qbn qbc,.slice qr qrn qrc]] w fun e w'=>e=.returned (.bool false)/\Below w.heap.size w w':=by
 obtain ⟨V,hV⟩:∃ V,w.alloc (.cells #[.int .i64 p0,.int .i64 p1,.slice pt ptn ptc,.int .i64 p3,.int .i64 p4,.int .i64 p5,.int .i64 p6,.slice px pxn pxc,.slice pb pbn pbc,.slice pr prn prc] 61)=V:=⟨_,rfl⟩
 obtain ⟨X,hX⟩:∃ X,V.alloc (.cells #[.int .i64 q0,.int .i64 q1,.slice qt qtn qtc,.int .i64 q3,.int .i64 q4,.int .i64 q5,.int .i64 q6,.slice qx qxn qxc,.slice qb qbn qbc,.slice qr qrn qrc] 61)=X:=⟨_,rfl⟩
 obtain ⟨N1,hN1⟩:∃ N1,w.heap.size=N1:=⟨_,rfl⟩
 obtain ⟨N2,hN2⟩:∃ N2,V.heap.size=N2:=⟨_,rfl⟩
 have HBX:Hid (Below w.heap.size w X):=by
  show Below _ _ _
  rw [<-hX,<-hV]
  exact ((Below.refl _ _).alloc (Nat.le_refl _) _).alloc (by simp) _
 have HHd:Hid (∀ w',Below X.heap.size X w'->(w'.cell? ⟨N1,0,none⟩=some (.int .i64 p0)/\w'.cell? ⟨N1,1,none⟩=some (.int .i64 p1)/\w'.cell? ⟨N1,2,none⟩=some (.slice pt ptn ptc)/\w'.cell? ⟨N1,3,none⟩=some (.int .i64 p3)/\w'.cell? ⟨N1,4,none⟩=some (.int .i64 p4)/\w'.cell? ⟨N1,5,none⟩=some (.int .i64 p5)/\w'.cell? ⟨N1,6,none⟩=some (.int .i64 p6)/\w'.cell? ⟨N1,7,none⟩=some (.slice px pxn pxc)/\w'.cell? ⟨N1,8,none⟩=some (.slice pb pbn pbc)/\w'.cell? ⟨N1,9,none⟩=some (.slice pr prn prc))/\(w'.cell? ⟨N2,0,none⟩=some (.int .i64 q0)/\w'.cell? ⟨N2,1,none⟩=some (.int .i64 q1)/\w'.cell? ⟨N2,2,none⟩=some (.slice qt qtn qtc)/\w'.cell? ⟨N2,3,none⟩=some (.int .i64 q3)/\w'.cell? ⟨N2,4,none⟩=some (.int .i64 q4)/\w'.cell? ⟨N2,5,none⟩=some (.int .i64 q5)/\w'.cell? ⟨N2,6,none⟩=some (.int .i64 q6)/\w'.cell? ⟨N2,7,none⟩=some (.slice qx qxn qxc)/\w'.cell? ⟨N2,8,none⟩=some (.slice qb qbn qbc)/\w'.cell? ⟨N2,9,none⟩=some (.slice qr qrn qrc))):=fun w' hb=>by
  have gV:V.heap[N1]?=some (.cells #[.int .i64 p0,.int .i64 p1,.slice pt ptn ptc,.int .i64 p3,.int .i64 p4,.int .i64 p5,.int .i64 p6,.slice px pxn pxc,.slice pb pbn pbc,.slice pr prn prc] 61 (0,0)):=by rw [<-hV,<-hN1];exact heap_alloc_new w _
  have gX:X.heap[N2]?=some (.cells #[.int .i64 q0,.int .i64 q1,.slice qt qtn qtc,.int .i64 q3,.int .i64 q4,.int .i64 q5,.int .i64 q6,.slice qx qxn qxc,.slice qb qbn qbc,.slice qr qrn qrc] 61 (0,0)):=by rw [<-hX,<-hN2];exact heap_alloc_new V _
  have gV1:X.heap[N1]?=some (.cells #[.int .i64 p0,.int .i64 p1,.slice pt ptn ptc,.int .i64 p3,.int .i64 p4,.int .i64 p5,.int .i64 p6,.slice px pxn pxc,.slice pb pbn pbc,.slice pr prn prc] 61 (0,0)):=by rw [<-hX];exact (heap_alloc_old V _ (Array.getElem?_eq_some_iff.1 gV).1).trans gV
  exact ⟨xB ((hb.block _ (Array.getElem?_eq_some_iff.1 gV1).1).trans gV1),xB ((hb.block _ (Array.getElem?_eq_some_iff.1 gX).1).trans gX)⟩
 have ZHA:Hid (∀ w',Below X.heap.size X w'->Calls Tryz.prog 51 #[.agg #[.int .i64 p0,.int .i64 p1,.slice pt ptn ptc,.int .i64 p3,.int .i64 p4,.int .i64 p5,.int .i64 p6,.slice px pxn pxc,.slice pb pbn pbc,.slice pr prn prc]] w' fun e w2=>e=.returned (.agg #[.int .i64 p0,.int .i64 p1,.int .i64 p3,.int .i64 p4,.int .i64 p5,.int .i64 p6])/\Below w'.heap.size w' w2):=fun w' hb=>HA w' (yj HBX.out hb)
 have ZHB:Hid (∀ w',Below X.heap.size X w'->Calls Tryz.prog 51 #[.agg #[.int .i64 q0,.int .i64 q1,.slice qt qtn qtc,.int .i64 q3,.int .i64 q4,.int .i64 q5,.int .i64 q6,.slice qx qxn qxc,.slice qb qbn qbc,.slice qr qrn qrc]] w' fun e w2=>e=.returned (.agg #[.int .i64 q0,.int .i64 q1,.int .i64 q3,.int .i64 q4,.int .i64 q5,.int .i64 q6])/\Below w'.heap.size w' w2):=fun w' hb=>HB w' (yj HBX.out hb)
 have ZHt:Hid (∀ w',Below X.heap.size X w'->Calls Tryz.prog 32 #[.slice pt ptn ptc,.slice qt qtn qtc] w' fun e w2=>e=.returned (.bool true)/\Below w'.heap.size w' w2):=fun w' hb=>Ht w' (yj HBX.out hb)
 have ZHx:Hid (∀ w',Below X.heap.size X w'->Calls Tryz.prog 52 #[.slice px pxn pxc,.slice qx qxn qxc] w' fun e w2=>e=.returned (.bool true)/\Below w'.heap.size w' w2):=fun w' hb=>Hx w' (yj HBX.out hb)
 have ZHb:Hid (∀ w',Below X.heap.size X w'->Calls Tryz.prog 52 #[.slice pb pbn pbc,.slice qb qbn qbc] w' fun e w2=>e=.returned (.bool false)/\Below w'.heap.size w' w2):=fun w' hb=>Hb w' (yj HBX.out hb)
 clear HA HB Ht Hx Hb
 go_enter Tryz.func31,Tryz.ntmps31
 go_upto_region 1 with fail
 try rw [hV]
 try rw [hN1]
 try rw [hX]
 try rw [hN2]
 clear hV hN1 hX hN2
 have HBd:Hid (Below X.heap.size X X.drew):=(Below.refl _ _).drew
 refine Y3 (fun w'=>(w'.cell? ⟨N1,0,none⟩=some (.int .i64 p0)/\w'.cell? ⟨N1,1,none⟩=some (.int .i64 p1)/\w'.cell? ⟨N1,2,none⟩=some (.slice pt ptn ptc)/\w'.cell? ⟨N1,3,none⟩=some (.int .i64 p3)/\w'.cell? ⟨N1,4,none⟩=some (.int .i64 p4)/\w'.cell? ⟨N1,5,none⟩=some (.int .i64 p5)/\w'.cell? ⟨N1,6,none⟩=some (.int .i64 p6)/\w'.cell? ⟨N1,7,none⟩=some (.slice px pxn pxc)/\w'.cell? ⟨N1,8,none⟩=some (.slice pb pbn pbc)/\w'.cell? ⟨N1,9,none⟩=some (.slice pr prn prc))/\(w'.cell? ⟨N2,0,none⟩=some (.int .i64 q0)/\w'.cell? ⟨N2,1,none⟩=some (.int .i64 q1)/\w'.cell? ⟨N2,2,none⟩=some (.slice qt qtn qtc)/\w'.cell? ⟨N2,3,none⟩=some (.int .i64 q3)/\w'.cell? ⟨N2,4,none⟩=some (.int .i64 q4)/\w'.cell? ⟨N2,5,none⟩=some (.int .i64 q5)/\w'.cell? ⟨N2,6,none⟩=some (.int .i64 q6)/\w'.cell? ⟨N2,7,none⟩=some (.slice qx qxn qxc)/\w'.cell? ⟨N2,8,none⟩=some (.slice qb qbn qbc)/\w'.cell? ⟨N2,9,none⟩=some (.slice qr qrn qrc))) (fun _=>True) [99] rfl ⟨HHd.out _ HBd.out,trivial⟩ (fun hHeld=>?_)
 generalize X.drew=U at HBd hHeld ⊢
 refine yg (i:=0) (oi:=⟨some 5,.load 61 (.tmp 2),_,_,_,_⟩) (v:=?v_ay) rfl (by kernel_rfl) (by kernel_rfl) (by kernel_rfl) (by kernel_rfl) (fun _ _ _ h=>h) (Or.inl ⟨by rfl,?hy_ay⟩) (by assumption) ?rest_ay
 case hy_ay=>(intro w hSw;(try dsimp only at hSw);go_simp;try (with_reducible rfl))
 try simp only [Act.put,List.setIfInBounds_toArray,List.set_cons_zero,List.set_cons_succ]
 refine yg (i:=2) (oi:=⟨some 7,.load 61 (.tmp 3),_,_,_,_⟩) (v:=?v_az) rfl (by kernel_rfl) (by kernel_rfl) (by kernel_rfl) (by kernel_rfl) (fun _ _ _ h=>h) (Or.inl ⟨by rfl,?hy_az⟩) (by assumption) ?rest_az
 case hy_az=>(intro w hSw;(try dsimp only at hSw);go_simp;try (with_reducible rfl))
 try simp only [Act.put,List.setIfInBounds_toArray,List.set_cons_zero,List.set_cons_succ]
 refine zh (i:=1) (o:=⟨some 6,.call { callee:=.value (.func 51),args:=#[(.tmp 5)],argTypes:=#[61] },_,_,_,_⟩) (by kernel_rfl) rfl (fun K hK=>?_)
 go_simp
 refine cZ (ZHA.out _ HBd.out) ?_
 rintro e w1 ⟨rfl,hbw1⟩
 go_wp2_with fail
 have HB1:Hid (Below X.heap.size X w1):=yj HBd.out hbw1
 clear hbw1 hHeld
 have hHeld:=(⟨HHd.out _ HB1.out,trivial⟩:_/\True)
 refine hK.out _ _ ⟨hHeld.1,fun _=>trivial⟩ ?_
 clear hK K
 refine zh (i:=3) (o:=⟨some 8,.call { callee:=.value (.func 51),args:=#[(.tmp 7)],argTypes:=#[61] },_,_,_,_⟩) (by kernel_rfl) rfl (fun K hK=>?_)
 go_simp
 refine cZ (ZHB.out _ HB1.out) ?_
 rintro e w3 ⟨rfl,hbw3⟩
 go_wp2_with fail
 have HB3:Hid (Below X.heap.size X w3):=yj HB1.out hbw3
 clear hbw3 hHeld
 have hHeld:=(⟨HHd.out _ HB3.out,trivial⟩:_/\True)
 refine hK.out _ _ ⟨hHeld.1,fun _=>trivial⟩ ?_
 clear hK K
 refine yg (i:=4) (oi:=⟨some 9,.binOp .eql 122 (.tmp 6) (.tmp 8) 122,_,_,_,_⟩) (v:=?v_a0) rfl (by kernel_rfl) (by kernel_rfl) (by kernel_rfl) (by kernel_rfl) (fun _ _ _ h=>h) (Or.inl ⟨by rfl,?hy_a0⟩) (by assumption) ?rest_a0
 case hy_a0=>(intro w hSw;(try dsimp only at hSw);go_simp;try (with_reducible rfl))
 try simp only [Act.put,List.setIfInBounds_toArray,List.set_cons_zero,List.set_cons_succ]
 refine yg (i:=5) (oi:=⟨some 10,.move (.tmp 9),_,_,_,_⟩) (v:=?v_a1) rfl (by kernel_rfl) (by kernel_rfl) (by kernel_rfl) (by kernel_rfl) (fun _ _ _ h=>h) (Or.inl ⟨by rfl,?hy_a1⟩) (by assumption) ?rest_a1
 case hy_a1=>(intro w hSw;(try dsimp only at hSw);go_simp;try (with_reducible rfl))
 try simp only [Act.put,List.setIfInBounds_toArray,List.set_cons_zero,List.set_cons_succ]
 refine yg (i:=6) (oi:=⟨some 11,.fieldAddr 61 (.tmp 2) 2,_,_,_,_⟩) (v:=?v_a2) rfl (by kernel_rfl) (by kernel_rfl) (by kernel_rfl) (by kernel_rfl) (fun _ _ _ h=>h) (Or.inl ⟨by rfl,?hy_a2⟩) (by assumption) ?rest_a2
 case hy_a2=>(intro w hSw;(try dsimp only at hSw);go_simp;try (with_reducible rfl))
 try simp only [Act.put,List.setIfInBounds_toArray,List.set_cons_zero,List.set_cons_succ]
 refine yg (i:=7) (oi:=⟨some 12,.load 24 (.tmp 11),_,_,_,_⟩) (v:=?v_a3) rfl (by kernel_rfl) (by kernel_rfl) (by kernel_rfl) (by kernel_rfl) (fun _ _ _ h=>h) (Or.inl ⟨by rfl,?hy_a3⟩) (by assumption) ?rest_a3
 case hy_a3=>(intro w hSw;(try dsimp only at hSw);go_simp;try (with_reducible rfl))
 try simp only [Act.put,List.setIfInBounds_toArray,List.set_cons_zero,List.set_cons_succ]
 refine yg (i:=8) (oi:=⟨some 13,.fieldAddr 61 (.tmp 3) 2,_,_,_,_⟩) (v:=?v_a4) rfl (by kernel_rfl) (by kernel_rfl) (by kernel_rfl) (by kernel_rfl) (fun _ _ _ h=>h) (Or.inl ⟨by rfl,?hy_a4⟩) (by assumption) ?rest_a4
 case hy_a4=>(intro w hSw;(try dsimp only at hSw);go_simp;try (with_reducible rfl))
 try simp only [Act.put,List.setIfInBounds_toArray,List.set_cons_zero,List.set_cons_succ]
 refine yg (i:=9) (oi:=⟨some 14,.load 24 (.tmp 13),_,_,_,_⟩) (v:=?v_a5) rfl (by kernel_rfl) (by kernel_rfl) (by kernel_rfl) (by kernel_rfl) (fun _ _ _ h=>h) (Or.inl ⟨by rfl,?hy_a5⟩) (by assumption) ?rest_a5
 case hy_a5=>(intro w hSw;(try dsimp only at hSw);go_simp;try (with_reducible rfl))
 try simp only [Act.put,List.setIfInBounds_toArray,List.set_cons_zero,List.set_cons_succ]
 refine zh (i:=10) (o:=⟨some 15,.call { callee:=.value (.func 32),args:=#[(.tmp 12),(.tmp 14)],argTypes:=#[24,24] },_,_,_,_⟩) (by kernel_rfl) rfl (fun K hK=>?_)
 go_simp
 refine cZ (ZHt.out _ HB3.out) ?_
 rintro e w10 ⟨rfl,hbw10⟩
 go_wp2_with fail
 have HB10:Hid (Below X.heap.size X w10):=yj HB3.out hbw10
 clear hbw10 hHeld
 have hHeld:=(⟨HHd.out _ HB10.out,trivial⟩:_/\True)
 refine hK.out _ _ ⟨hHeld.1,fun _=>trivial⟩ ?_
 clear hK K
 refine yg (i:=11) (oi:=⟨some 16,.pick (.tmp 10) (.tmp 15) ((.const (.bool false))),_,_,_,_⟩) (v:=?v_db) rfl (by kernel_rfl) (by kernel_rfl) (by kernel_rfl) (by kernel_rfl) (fun _ _ _ h=>h) (Or.inl ⟨by rfl,?hy_db⟩) (by assumption) ?rest_db
 case hy_db=>(intro w hSw;(try dsimp only at hSw);go_simp;try (with_reducible rfl))
 try simp only [Act.put,List.setIfInBounds_toArray,List.set_cons_zero,List.set_cons_succ]
 refine yg (i:=12) (oi:=⟨some 17,.move (.tmp 16),_,_,_,_⟩) (v:=?v_dc) rfl (by kernel_rfl) (by kernel_rfl) (by kernel_rfl) (by kernel_rfl) (fun _ _ _ h=>h) (Or.inl ⟨by rfl,?hy_dc⟩) (by assumption) ?rest_dc
 case hy_dc=>(intro w hSw;(try dsimp only at hSw);go_simp;try (with_reducible rfl))
 try simp only [Act.put,List.setIfInBounds_toArray,List.set_cons_zero,List.set_cons_succ]
 refine yg (i:=13) (oi:=⟨some 18,.fieldAddr 61 (.tmp 2) 7,_,_,_,_⟩) (v:=?v_dd) rfl (by kernel_rfl) (by kernel_rfl) (by kernel_rfl) (by kernel_rfl) (fun _ _ _ h=>h) (Or.inl ⟨by rfl,?hy_dd⟩) (by assumption) ?rest_dd
 case hy_dd=>(intro w hSw;(try dsimp only at hSw);go_simp;try (with_reducible rfl))
 try simp only [Act.put,List.setIfInBounds_toArray,List.set_cons_zero,List.set_cons_succ]
 refine yg (i:=14) (oi:=⟨some 19,.load 58 (.tmp 18),_,_,_,_⟩) (v:=?v_de) rfl (by kernel_rfl) (by kernel_rfl) (by kernel_rfl) (by kernel_rfl) (fun _ _ _ h=>h) (Or.inl ⟨by rfl,?hy_de⟩) (by assumption) ?rest_de
 case hy_de=>(intro w hSw;(try dsimp only at hSw);go_simp;try (with_reducible rfl))
 try simp only [Act.put,List.setIfInBounds_toArray,List.set_cons_zero,List.set_cons_succ]
 refine yg (i:=15) (oi:=⟨some 20,.fieldAddr 61 (.tmp 3) 7,_,_,_,_⟩) (v:=?v_df) rfl (by kernel_rfl) (by kernel_rfl) (by kernel_rfl) (by kernel_rfl) (fun _ _ _ h=>h) (Or.inl ⟨by rfl,?hy_df⟩) (by assumption) ?rest_df
 case hy_df=>(intro w hSw;(try dsimp only at hSw);go_simp;try (with_reducible rfl))
 try simp only [Act.put,List.setIfInBounds_toArray,List.set_cons_zero,List.set_cons_succ]
 refine yg (i:=16) (oi:=⟨some 21,.load 58 (.tmp 20),_,_,_,_⟩) (v:=?v_dg) rfl (by kernel_rfl) (by kernel_rfl) (by kernel_rfl) (by kernel_rfl) (fun _ _ _ h=>h) (Or.inl ⟨by rfl,?hy_dg⟩) (by assumption) ?rest_dg
 case hy_dg=>(intro w hSw;(try dsimp only at hSw);go_simp;try (with_reducible rfl))
 try simp only [Act.put,List.setIfInBounds_toArray,List.set_cons_zero,List.set_cons_succ]
 refine zh (i:=17) (o:=⟨some 22,.call { callee:=.value (.func 52),args:=#[(.tmp 19),(.tmp 21)],argTypes:=#[58,58] },_,_,_,_⟩) (by kernel_rfl) rfl (fun K hK=>?_)
 go_simp
 refine cZ (ZHx.out _ HB10.out) ?_
 rintro e w17 ⟨rfl,hbw17⟩
 go_wp2_with fail
 have HB17:Hid (Below X.heap.size X w17):=yj HB10.out hbw17
 clear hbw17 hHeld
 have hHeld:=(⟨HHd.out _ HB17.out,trivial⟩:_/\True)
 refine hK.out _ _ ⟨hHeld.1,fun _=>trivial⟩ ?_
 clear hK K
 refine yg (i:=18) (oi:=⟨some 23,.pick (.tmp 17) (.tmp 22) ((.const (.bool false))),_,_,_,_⟩) (v:=?v_dh) rfl (by kernel_rfl) (by kernel_rfl) (by kernel_rfl) (by kernel_rfl) (fun _ _ _ h=>h) (Or.inl ⟨by rfl,?hy_dh⟩) (by assumption) ?rest_dh
 case hy_dh=>(intro w hSw;(try dsimp only at hSw);go_simp;try (with_reducible rfl))
 try simp only [Act.put,List.setIfInBounds_toArray,List.set_cons_zero,List.set_cons_succ]
 refine yg (i:=19) (oi:=⟨some 24,.move (.tmp 23),_,_,_,_⟩) (v:=?v_di) rfl (by kernel_rfl) (by kernel_rfl) (by kernel_rfl) (by kernel_rfl) (fun _ _ _ h=>h) (Or.inl ⟨by rfl,?hy_di⟩) (by assumption) ?rest_di
 case hy_di=>(intro w hSw;(try dsimp only at hSw);go_simp;try (with_reducible rfl))
 try simp only [Act.put,List.setIfInBounds_toArray,List.set_cons_zero,List.set_cons_succ]
 refine yg (i:=20) (oi:=⟨some 25,.fieldAddr 61 (.tmp 2) 8,_,_,_,_⟩) (v:=?v_dj) rfl (by kernel_rfl) (by kernel_rfl) (by kernel_rfl) (by kernel_rfl) (fun _ _ _ h=>h) (Or.inl ⟨by rfl,?hy_dj⟩) (by assumption) ?rest_dj
 case hy_dj=>(intro w hSw;(try dsimp only at hSw);go_simp;try (with_reducible rfl))
 try simp only [Act.put,List.setIfInBounds_toArray,List.set_cons_zero,List.set_cons_succ]
 refine yg (i:=21) (oi:=⟨some 26,.load 58 (.tmp 25),_,_,_,_⟩) (v:=?v_dk) rfl (by kernel_rfl) (by kernel_rfl) (by kernel_rfl) (by kernel_rfl) (fun _ _ _ h=>h) (Or.inl ⟨by rfl,?hy_dk⟩) (by assumption) ?rest_dk
 case hy_dk=>(intro w hSw;(try dsimp only at hSw);go_simp;try (with_reducible rfl))
 try simp only [Act.put,List.setIfInBounds_toArray,List.set_cons_zero,List.set_cons_succ]
 refine yg (i:=22) (oi:=⟨some 27,.fieldAddr 61 (.tmp 3) 8,_,_,_,_⟩) (v:=?v_dl) rfl (by kernel_rfl) (by kernel_rfl) (by kernel_rfl) (by kernel_rfl) (fun _ _ _ h=>h) (Or.inl ⟨by rfl,?hy_dl⟩) (by assumption) ?rest_dl
 case hy_dl=>(intro w hSw;(try dsimp only at hSw);go_simp;try (with_reducible rfl))
 try simp only [Act.put,List.setIfInBounds_toArray,List.set_cons_zero,List.set_cons_succ]
 refine yg (i:=23) (oi:=⟨some 28,.load 58 (.tmp 27),_,_,_,_⟩) (v:=?v_dm) rfl (by kernel_rfl) (by kernel_rfl) (by kernel_rfl) (by kernel_rfl) (fun _ _ _ h=>h) (Or.inl ⟨by rfl,?hy_dm⟩) (by assumption) ?rest_dm
 case hy_dm=>(intro w hSw;(try dsimp only at hSw);go_simp;try (with_reducible rfl))
 try simp only [Act.put,List.setIfInBounds_toArray,List.set_cons_zero,List.set_cons_succ]
 refine zh (i:=24) (o:=⟨some 29,.call { callee:=.value (.func 52),args:=#[(.tmp 26),(.tmp 28)],argTypes:=#[58,58] },_,_,_,_⟩) (by kernel_rfl) rfl (fun K hK=>?_)
 go_simp
 refine cZ (ZHb.out _ HB17.out) ?_
 rintro e w24 ⟨rfl,hbw24⟩
 go_wp2_with fail
 have HB24:Hid (Below X.heap.size X w24):=yj HB17.out hbw24
 clear hbw24 hHeld
 have hHeld:=(⟨HHd.out _ HB24.out,trivial⟩:_/\True)
 refine hK.out _ _ ⟨hHeld.1,fun _=>trivial⟩ ?_
 clear hK K
 refine yg (i:=25) (oi:=⟨some 30,.pick (.tmp 24) (.tmp 29) ((.const (.bool false))),_,_,_,_⟩) (v:=?v_dn) rfl (by kernel_rfl) (by kernel_rfl) (by kernel_rfl) (by kernel_rfl) (fun _ _ _ h=>h) (Or.inl ⟨by rfl,?hy_dn⟩) (by assumption) ?rest_dn
 case hy_dn=>(intro w hSw;(try dsimp only at hSw);go_simp;try (with_reducible rfl))
 try simp only [Act.put,List.setIfInBounds_toArray,List.set_cons_zero,List.set_cons_succ]
 refine yg (i:=26) (oi:=⟨some 31,.move (.tmp 30),_,_,_,_⟩) (v:=?v_do) rfl (by kernel_rfl) (by kernel_rfl) (by kernel_rfl) (by kernel_rfl) (fun _ _ _ h=>h) (Or.inl ⟨by rfl,?hy_do⟩) (by assumption) ?rest_do
 case hy_do=>(intro w hSw;(try dsimp only at hSw);go_simp;try (with_reducible rfl))
 try simp only [Act.put,List.setIfInBounds_toArray,List.set_cons_zero,List.set_cons_succ]
 refine yg (i:=27) (oi:=⟨some 32,.fieldAddr 61 (.tmp 2) 9,_,_,_,_⟩) (v:=undef) rfl (by kernel_rfl) (by kernel_rfl) (by kernel_rfl) (by kernel_rfl) (fun _ _ _ h=>h) (Or.inr ⟨by rfl,rfl⟩) (by assumption) ?rest_dp
 try simp only [Act.put,List.setIfInBounds_toArray,List.set_cons_zero,List.set_cons_succ]
 refine yg (i:=28) (oi:=⟨some 33,.load 59 (.tmp 32),_,_,_,_⟩) (v:=undef) rfl (by kernel_rfl) (by kernel_rfl) (by kernel_rfl) (by kernel_rfl) (fun _ _ _ h=>h) (Or.inr ⟨by rfl,rfl⟩) (by assumption) ?rest_dq
 try simp only [Act.put,List.setIfInBounds_toArray,List.set_cons_zero,List.set_cons_succ]
 refine yg (i:=29) (oi:=⟨some 34,.fieldAddr 61 (.tmp 3) 9,_,_,_,_⟩) (v:=undef) rfl (by kernel_rfl) (by kernel_rfl) (by kernel_rfl) (by kernel_rfl) (fun _ _ _ h=>h) (Or.inr ⟨by rfl,rfl⟩) (by assumption) ?rest_dr
 try simp only [Act.put,List.setIfInBounds_toArray,List.set_cons_zero,List.set_cons_succ]
 refine yg (i:=30) (oi:=⟨some 35,.load 59 (.tmp 34),_,_,_,_⟩) (v:=undef) rfl (by kernel_rfl) (by kernel_rfl) (by kernel_rfl) (by kernel_rfl) (fun _ _ _ h=>h) (Or.inr ⟨by rfl,rfl⟩) (by assumption) ?rest_ds
 try simp only [Act.put,List.setIfInBounds_toArray,List.set_cons_zero,List.set_cons_succ]
 refine yg (i:=31) (oi:=⟨some 36,.call { callee:=.value (.func 53),args:=#[(.tmp 33),(.tmp 35),Operand.func 52],argTypes:=#[59,59,124] },_,_,_,_⟩) (v:=undef) rfl (by kernel_rfl) (by kernel_rfl) (by kernel_rfl) (by kernel_rfl) (fun _ _ _ h=>h) (Or.inr ⟨by rfl,rfl⟩) (by assumption) ?rest_dt
 try simp only [Act.put,List.setIfInBounds_toArray,List.set_cons_zero,List.set_cons_succ]
 refine yg (i:=32) (oi:=⟨some 37,.pick (.tmp 31) (.tmp 36) ((.const (.bool false))),_,_,_,_⟩) (v:=?v_du) rfl (by kernel_rfl) (by kernel_rfl) (by kernel_rfl) (by kernel_rfl) (fun _ _ _ h=>h) (Or.inl ⟨by rfl,?hy_du⟩) (by assumption) ?rest_du
 case hy_du=>(intro w hSw;(try dsimp only at hSw);go_simp;try (with_reducible rfl))
 try simp only [Act.put,List.setIfInBounds_toArray,List.set_cons_zero,List.set_cons_succ]
 refine yg (i:=33) (oi:=⟨some 4,.assign (.tmp 37),_,_,_,_⟩) (v:=?v_dv) rfl (by kernel_rfl) (by kernel_rfl) (by kernel_rfl) (by kernel_rfl) (fun _ _ _ h=>h) (Or.inl ⟨by rfl,?hy_dv⟩) (by assumption) ?rest_dv
 case hy_dv=>(intro w hSw;(try dsimp only at hSw);go_simp;try (with_reducible rfl))
 try simp only [Act.put,List.setIfInBounds_toArray,List.set_cons_zero,List.set_cons_succ]
 refine Y4 (by kernel_rfl) ?_ _
 go_wp2_with fail
 go_ret
 exact ⟨rfl,yj HBX.out HB24.out⟩
theorem y5C {p0 p1 p3 p4 p5 p6 q0 q1 q3 q4 q5 q6:Int} {pt px pb pr qt qx qb qr:Option Addr} {ptn ptc pxn pxc pbn pbc prn prc qtn qtc qxn qxc qbn qbc qrn qrc:Nat} (w:World) (R:Bool) (HA:∀ w',Below w.heap.size w w'->Calls Tryz.prog 51 #[.agg #[.int .i64 p0,.int .i64 p1,.slice pt ptn ptc,.int .i64 p3,.int .i64 p4,.int .i64 p5,.int .i64 p6,.slice px pxn pxc,.slice pb pbn pbc,.slice pr prn prc]] w' fun e w2=>e=.returned (.agg #[.int .i64 p0,.int .i64 p1,.int .i64 p3,.int .i64 p4,.int .i64 p5,.int .i64 p6])/\Below w'.heap.size w' w2) (HB:∀ w',Below w.heap.size w w'->Calls Tryz.prog 51 #[.agg #[.int .i64 q0,.int .i64 q1,.slice qt qtn qtc,.int .i64 q3,.int .i64 q4,.int .i64 q5,.int .i64 q6,.slice qx qxn qxc,.slice qb qbn qbc,.slice qr qrn qrc]] w' fun e w2=>e=.returned (.agg #[.int .i64 q0,.int .i64 q1,.int .i64 q3,.int .i64 q4,.int .i64 q5,.int .i64 q6])/\Below w'.heap.size w' w2)
  (HPl:∀ W,(binOp .eql 122 (.agg #[.int .i64 p0,.int .i64 p1,.int .i64 p3,.int .i64 p4,.int .i64 p5,.int .i64 p6]) (.agg #[.int .i64 q0,.int .i64 q1,.int .i64 q3,.int .i64 q4,.int .i64 q5,.int .i64 q6])).run Tryz.prog W=.ok (.bool true) W)
  (Ht:∀ w',Below w.heap.size w w'->Calls Tryz.prog 32 #[.slice pt ptn ptc,.slice qt qtn qtc] w' fun e w2=>e=.returned (.bool true)/\Below w'.heap.size w' w2)
  (Hx:∀ w',Below w.heap.size w w'->Calls Tryz.prog 52 #[.slice px pxn pxc,.slice qx qxn qxc] w' fun e w2=>e=.returned (.bool true)/\Below w'.heap.size w' w2)
  (Hb:∀ w',Below w.heap.size w w'->Calls Tryz.prog 52 #[.slice pb pbn pbc,.slice qb qbn qbc] w' fun e w2=>e=.returned (.bool true)/\Below w'.heap.size w' w2)
  (Hr:∀ w',Below w.heap.size w w'->Calls Tryz.prog 53 #[.slice pr prn prc,.slice qr qrn qrc,.func (.func 52) #[] #[]] w' fun e w2=>e=.returned (.bool R)/\Below w'.heap.size w' w2) :
  Calls Tryz.prog 31 #[.agg #[.int .i64 p0,.int .i64 p1,.slice pt ptn ptc,.int .i64 p3,.int .i64 p4,.int .i64 p5,.int .i64 p6,.slice px pxn pxc,.slice pb pbn pbc,.slice pr prn prc],.agg #[.int .i64 q0,.int .i64 q1,.slice qt qtn qtc,.int .i64 q3,.int .i64 q4,.int .i64 q5,.int .i64 q6,.slice qx qxn qxc,.slice qb qbn qbc,.slice qr qrn qrc]] w fun e w'=>e=.returned (.bool R)/\Below w.heap.size w w':=by
 obtain ⟨V,hV⟩:∃ V,w.alloc (.cells #[.int .i64 p0,.int .i64 p1,.slice pt ptn ptc,.int .i64 p3,.int .i64 p4,.int .i64 p5,.int .i64 p6,.slice px pxn pxc,.slice pb pbn pbc,.slice pr prn prc] 61)=V:=⟨_,rfl⟩
 obtain ⟨X,hX⟩:∃ X,V.alloc (.cells #[.int .i64 q0,.int .i64 q1,.slice qt qtn qtc,.int .i64 q3,.int .i64 q4,.int .i64 q5,.int .i64 q6,.slice qx qxn qxc,.slice qb qbn qbc,.slice qr qrn qrc] 61)=X:=⟨_,rfl⟩
 obtain ⟨N1,hN1⟩:∃ N1,w.heap.size=N1:=⟨_,rfl⟩
 obtain ⟨N2,hN2⟩:∃ N2,V.heap.size=N2:=⟨_,rfl⟩
 have HBX:Hid (Below w.heap.size w X):=by
  show Below _ _ _
  rw [<-hX,<-hV]
  exact ((Below.refl _ _).alloc (Nat.le_refl _) _).alloc (by simp) _
 have HHd:Hid (∀ w',Below X.heap.size X w'->(w'.cell? ⟨N1,0,none⟩=some (.int .i64 p0)/\w'.cell? ⟨N1,1,none⟩=some (.int .i64 p1)/\w'.cell? ⟨N1,2,none⟩=some (.slice pt ptn ptc)/\w'.cell? ⟨N1,3,none⟩=some (.int .i64 p3)/\w'.cell? ⟨N1,4,none⟩=some (.int .i64 p4)/\w'.cell? ⟨N1,5,none⟩=some (.int .i64 p5)/\w'.cell? ⟨N1,6,none⟩=some (.int .i64 p6)/\w'.cell? ⟨N1,7,none⟩=some (.slice px pxn pxc)/\w'.cell? ⟨N1,8,none⟩=some (.slice pb pbn pbc)/\w'.cell? ⟨N1,9,none⟩=some (.slice pr prn prc))/\(w'.cell? ⟨N2,0,none⟩=some (.int .i64 q0)/\w'.cell? ⟨N2,1,none⟩=some (.int .i64 q1)/\w'.cell? ⟨N2,2,none⟩=some (.slice qt qtn qtc)/\w'.cell? ⟨N2,3,none⟩=some (.int .i64 q3)/\w'.cell? ⟨N2,4,none⟩=some (.int .i64 q4)/\w'.cell? ⟨N2,5,none⟩=some (.int .i64 q5)/\w'.cell? ⟨N2,6,none⟩=some (.int .i64 q6)/\w'.cell? ⟨N2,7,none⟩=some (.slice qx qxn qxc)/\w'.cell? ⟨N2,8,none⟩=some (.slice qb qbn qbc)/\w'.cell? ⟨N2,9,none⟩=some (.slice qr qrn qrc))):=fun w' hb=>by
  have gV:V.heap[N1]?=some (.cells #[.int .i64 p0,.int .i64 p1,.slice pt ptn ptc,.int .i64 p3,.int .i64 p4,.int .i64 p5,.int .i64 p6,.slice px pxn pxc,.slice pb pbn pbc,.slice pr prn prc] 61 (0,0)):=by rw [<-hV,<-hN1];exact heap_alloc_new w _
  have gX:X.heap[N2]?=some (.cells #[.int .i64 q0,.int .i64 q1,.slice qt qtn qtc,.int .i64 q3,.int .i64 q4,.int .i64 q5,.int .i64 q6,.slice qx qxn qxc,.slice qb qbn qbc,.slice qr qrn qrc] 61 (0,0)):=by rw [<-hX,<-hN2];exact heap_alloc_new V _
  have gV1:X.heap[N1]?=some (.cells #[.int .i64 p0,.int .i64 p1,.slice pt ptn ptc,.int .i64 p3,.int .i64 p4,.int .i64 p5,.int .i64 p6,.slice px pxn pxc,.slice pb pbn pbc,.slice pr prn prc] 61 (0,0)):=by rw [<-hX];exact (heap_alloc_old V _ (Array.getElem?_eq_some_iff.1 gV).1).trans gV
  exact ⟨xB ((hb.block _ (Array.getElem?_eq_some_iff.1 gV1).1).trans gV1),xB ((hb.block _ (Array.getElem?_eq_some_iff.1 gX).1).trans gX)⟩
 have ZHA:Hid (∀ w',Below X.heap.size X w'->Calls Tryz.prog 51 #[.agg #[.int .i64 p0,.int .i64 p1,.slice pt ptn ptc,.int .i64 p3,.int .i64 p4,.int .i64 p5,.int .i64 p6,.slice px pxn pxc,.slice pb pbn pbc,.slice pr prn prc]] w' fun e w2=>e=.returned (.agg #[.int .i64 p0,.int .i64 p1,.int .i64 p3,.int .i64 p4,.int .i64 p5,.int .i64 p6])/\Below w'.heap.size w' w2):=fun w' hb=>HA w' (yj HBX.out hb)
 have ZHB:Hid (∀ w',Below X.heap.size X w'->Calls Tryz.prog 51 #[.agg #[.int .i64 q0,.int .i64 q1,.slice qt qtn qtc,.int .i64 q3,.int .i64 q4,.int .i64 q5,.int .i64 q6,.slice qx qxn qxc,.slice qb qbn qbc,.slice qr qrn qrc]] w' fun e w2=>e=.returned (.agg #[.int .i64 q0,.int .i64 q1,.int .i64 q3,.int .i64 q4,.int .i64 q5,.int .i64 q6])/\Below w'.heap.size w' w2):=fun w' hb=>HB w' (yj HBX.out hb)
 have ZHt:Hid (∀ w',Below X.heap.size X w'->Calls Tryz.prog 32 #[.slice pt ptn ptc,.slice qt qtn qtc] w' fun e w2=>e=.returned (.bool true)/\Below w'.heap.size w' w2):=fun w' hb=>Ht w' (yj HBX.out hb)
 have ZHx:Hid (∀ w',Below X.heap.size X w'->Calls Tryz.prog 52 #[.slice px pxn pxc,.slice qx qxn qxc] w' fun e w2=>e=.returned (.bool true)/\Below w'.heap.size w' w2):=fun w' hb=>Hx w' (yj HBX.out hb)
 have ZHb:Hid (∀ w',Below X.heap.size X w'->Calls Tryz.prog 52 #[.slice pb pbn pbc,.slice qb qbn qbc] w' fun e w2=>e=.returned (.bool true)/\Below w'.heap.size w' w2):=fun w' hb=>Hb w' (yj HBX.out hb)
 have ZHr:Hid (∀ w',Below X.heap.size X w'->Calls Tryz.prog 53 #[.slice pr prn prc,.slice qr qrn qrc,.func (.func 52) #[] #[]] w' fun e w2=>e=.returned (.bool R)/\Below w'.heap.size w' w2):=fun w' hb=>Hr w' (yj HBX.out hb)
 clear HA HB Ht Hx Hb Hr
 go_enter Tryz.func31,Tryz.ntmps31
 go_upto_region 1 with fail
 try rw [hV]
 try rw [hN1]
 try rw [hX]
 try rw [hN2]
 clear hV hN1 hX hN2
 have HBd:Hid (Below X.heap.size X X.drew):=(Below.refl _ _).drew
 refine Y3 (fun w'=>(w'.cell? ⟨N1,0,none⟩=some (.int .i64 p0)/\w'.cell? ⟨N1,1,none⟩=some (.int .i64 p1)/\w'.cell? ⟨N1,2,none⟩=some (.slice pt ptn ptc)/\w'.cell? ⟨N1,3,none⟩=some (.int .i64 p3)/\w'.cell? ⟨N1,4,none⟩=some (.int .i64 p4)/\w'.cell? ⟨N1,5,none⟩=some (.int .i64 p5)/\w'.cell? ⟨N1,6,none⟩=some (.int .i64 p6)/\w'.cell? ⟨N1,7,none⟩=some (.slice px pxn pxc)/\w'.cell? ⟨N1,8,none⟩=some (.slice pb pbn pbc)/\w'.cell? ⟨N1,9,none⟩=some (.slice pr prn prc))/\(w'.cell? ⟨N2,0,none⟩=some (.int .i64 q0)/\w'.cell? ⟨N2,1,none⟩=some (.int .i64 q1)/\w'.cell? ⟨N2,2,none⟩=some (.slice qt qtn qtc)/\w'.cell? ⟨N2,3,none⟩=some (.int .i64 q3)/\w'.cell? ⟨N2,4,none⟩=some (.int .i64 q4)/\w'.cell? ⟨N2,5,none⟩=some (.int .i64 q5)/\w'.cell? ⟨N2,6,none⟩=some (.int .i64 q6)/\w'.cell? ⟨N2,7,none⟩=some (.slice qx qxn qxc)/\w'.cell? ⟨N2,8,none⟩=some (.slice qb qbn qbc)/\w'.cell? ⟨N2,9,none⟩=some (.slice qr qrn qrc))) (fun _=>True) [99] rfl ⟨HHd.out _ HBd.out,trivial⟩ (fun hHeld=>?_)
 generalize X.drew=U at HBd hHeld ⊢
 refine yg (i:=0) (oi:=⟨some 5,.load 61 (.tmp 2),_,_,_,_⟩) (v:=?v_a6) rfl (by kernel_rfl) (by kernel_rfl) (by kernel_rfl) (by kernel_rfl) (fun _ _ _ h=>h) (Or.inl ⟨by rfl,?hy_a6⟩) (by assumption) ?rest_a6
 case hy_a6=>(intro w hSw;(try dsimp only at hSw);go_simp;try (with_reducible rfl))
 try simp only [Act.put,List.setIfInBounds_toArray,List.set_cons_zero,List.set_cons_succ]
 refine yg (i:=2) (oi:=⟨some 7,.load 61 (.tmp 3),_,_,_,_⟩) (v:=?v_a7) rfl (by kernel_rfl) (by kernel_rfl) (by kernel_rfl) (by kernel_rfl) (fun _ _ _ h=>h) (Or.inl ⟨by rfl,?hy_a7⟩) (by assumption) ?rest_a7
 case hy_a7=>(intro w hSw;(try dsimp only at hSw);go_simp;try (with_reducible rfl))
 try simp only [Act.put,List.setIfInBounds_toArray,List.set_cons_zero,List.set_cons_succ]
 refine zh (i:=1) (o:=⟨some 6,.call { callee:=.value (.func 51),args:=#[(.tmp 5)],argTypes:=#[61] },_,_,_,_⟩) (by kernel_rfl) rfl (fun K hK=>?_)
 go_simp
 refine cZ (ZHA.out _ HBd.out) ?_
 rintro e w1 ⟨rfl,hbw1⟩
 go_wp2_with fail
 have HB1:Hid (Below X.heap.size X w1):=yj HBd.out hbw1
 clear hbw1 hHeld
 have hHeld:=(⟨HHd.out _ HB1.out,trivial⟩:_/\True)
 refine hK.out _ _ ⟨hHeld.1,fun _=>trivial⟩ ?_
 clear hK K
 refine zh (i:=3) (o:=⟨some 8,.call { callee:=.value (.func 51),args:=#[(.tmp 7)],argTypes:=#[61] },_,_,_,_⟩) (by kernel_rfl) rfl (fun K hK=>?_)
 go_simp
 refine cZ (ZHB.out _ HB1.out) ?_
 rintro e w3 ⟨rfl,hbw3⟩
 go_wp2_with fail
 have HB3:Hid (Below X.heap.size X w3):=yj HB1.out hbw3
 clear hbw3 hHeld
 have hHeld:=(⟨HHd.out _ HB3.out,trivial⟩:_/\True)
 refine hK.out _ _ ⟨hHeld.1,fun _=>trivial⟩ ?_
 clear hK K
 refine yg (i:=4) (oi:=⟨some 9,.binOp .eql 122 (.tmp 6) (.tmp 8) 122,_,_,_,_⟩) (v:=?v_a8) rfl (by kernel_rfl) (by kernel_rfl) (by kernel_rfl) (by kernel_rfl) (fun _ _ _ h=>h) (Or.inl ⟨by rfl,?hy_a8⟩) (by assumption) ?rest_a8
 case hy_a8=>(intro w hSw;(try dsimp only at hSw);go_simp;try (with_reducible rfl))
 try simp only [Act.put,List.setIfInBounds_toArray,List.set_cons_zero,List.set_cons_succ]
 refine yg (i:=5) (oi:=⟨some 10,.move (.tmp 9),_,_,_,_⟩) (v:=?v_a9) rfl (by kernel_rfl) (by kernel_rfl) (by kernel_rfl) (by kernel_rfl) (fun _ _ _ h=>h) (Or.inl ⟨by rfl,?hy_a9⟩) (by assumption) ?rest_a9
 case hy_a9=>(intro w hSw;(try dsimp only at hSw);go_simp;try (with_reducible rfl))
 try simp only [Act.put,List.setIfInBounds_toArray,List.set_cons_zero,List.set_cons_succ]
 refine yg (i:=6) (oi:=⟨some 11,.fieldAddr 61 (.tmp 2) 2,_,_,_,_⟩) (v:=?v_ba) rfl (by kernel_rfl) (by kernel_rfl) (by kernel_rfl) (by kernel_rfl) (fun _ _ _ h=>h) (Or.inl ⟨by rfl,?hy_ba⟩) (by assumption) ?rest_ba
 case hy_ba=>(intro w hSw;(try dsimp only at hSw);go_simp;try (with_reducible rfl))
 try simp only [Act.put,List.setIfInBounds_toArray,List.set_cons_zero,List.set_cons_succ]
 refine yg (i:=7) (oi:=⟨some 12,.load 24 (.tmp 11),_,_,_,_⟩) (v:=?v_bb) rfl (by kernel_rfl) (by kernel_rfl) (by kernel_rfl) (by kernel_rfl) (fun _ _ _ h=>h) (Or.inl ⟨by rfl,?hy_bb⟩) (by assumption) ?rest_bb
 case hy_bb=>(intro w hSw;(try dsimp only at hSw);go_simp;try (with_reducible rfl))
 try simp only [Act.put,List.setIfInBounds_toArray,List.set_cons_zero,List.set_cons_succ]
 refine yg (i:=8) (oi:=⟨some 13,.fieldAddr 61 (.tmp 3) 2,_,_,_,_⟩) (v:=?v_bc) rfl (by kernel_rfl) (by kernel_rfl) (by kernel_rfl) (by kernel_rfl) (fun _ _ _ h=>h) (Or.inl ⟨by rfl,?hy_bc⟩) (by assumption) ?rest_bc
 case hy_bc=>(intro w hSw;(try dsimp only at hSw);go_simp;try (with_reducible rfl))
 try simp only [Act.put,List.setIfInBounds_toArray,List.set_cons_zero,List.set_cons_succ]
 refine yg (i:=9) (oi:=⟨some 14,.load 24 (.tmp 13),_,_,_,_⟩) (v:=?v_bd) rfl (by kernel_rfl) (by kernel_rfl) (by kernel_rfl) (by kernel_rfl) (fun _ _ _ h=>h) (Or.inl ⟨by rfl,?hy_bd⟩) (by assumption) ?rest_bd
 case hy_bd=>(intro w hSw;(try dsimp only at hSw);go_simp;try (with_reducible rfl))
 try simp only [Act.put,List.setIfInBounds_toArray,List.set_cons_zero,List.set_cons_succ]
 refine zh (i:=10) (o:=⟨some 15,.call { callee:=.value (.func 32),args:=#[(.tmp 12),(.tmp 14)],argTypes:=#[24,24] },_,_,_,_⟩) (by kernel_rfl) rfl (fun K hK=>?_)
 go_simp
 refine cZ (ZHt.out _ HB3.out) ?_
 rintro e w10 ⟨rfl,hbw10⟩
 go_wp2_with fail
 have HB10:Hid (Below X.heap.size X w10):=yj HB3.out hbw10
 clear hbw10 hHeld
 have hHeld:=(⟨HHd.out _ HB10.out,trivial⟩:_/\True)
 refine hK.out _ _ ⟨hHeld.1,fun _=>trivial⟩ ?_
 clear hK K
 refine yg (i:=11) (oi:=⟨some 16,.pick (.tmp 10) (.tmp 15) ((.const (.bool false))),_,_,_,_⟩) (v:=?v_dw) rfl (by kernel_rfl) (by kernel_rfl) (by kernel_rfl) (by kernel_rfl) (fun _ _ _ h=>h) (Or.inl ⟨by rfl,?hy_dw⟩) (by assumption) ?rest_dw
 case hy_dw=>(intro w hSw;(try dsimp only at hSw);go_simp;try (with_reducible rfl))
 try simp only [Act.put,List.setIfInBounds_toArray,List.set_cons_zero,List.set_cons_succ]
 refine yg (i:=12) (oi:=⟨some 17,.move (.tmp 16),_,_,_,_⟩) (v:=?v_dx) rfl (by kernel_rfl) (by kernel_rfl) (by kernel_rfl) (by kernel_rfl) (fun _ _ _ h=>h) (Or.inl ⟨by rfl,?hy_dx⟩) (by assumption) ?rest_dx
 case hy_dx=>(intro w hSw;(try dsimp only at hSw);go_simp;try (with_reducible rfl))
 try simp only [Act.put,List.setIfInBounds_toArray,List.set_cons_zero,List.set_cons_succ]
 refine yg (i:=13) (oi:=⟨some 18,.fieldAddr 61 (.tmp 2) 7,_,_,_,_⟩) (v:=?v_dy) rfl (by kernel_rfl) (by kernel_rfl) (by kernel_rfl) (by kernel_rfl) (fun _ _ _ h=>h) (Or.inl ⟨by rfl,?hy_dy⟩) (by assumption) ?rest_dy
 case hy_dy=>(intro w hSw;(try dsimp only at hSw);go_simp;try (with_reducible rfl))
 try simp only [Act.put,List.setIfInBounds_toArray,List.set_cons_zero,List.set_cons_succ]
 refine yg (i:=14) (oi:=⟨some 19,.load 58 (.tmp 18),_,_,_,_⟩) (v:=?v_dz) rfl (by kernel_rfl) (by kernel_rfl) (by kernel_rfl) (by kernel_rfl) (fun _ _ _ h=>h) (Or.inl ⟨by rfl,?hy_dz⟩) (by assumption) ?rest_dz
 case hy_dz=>(intro w hSw;(try dsimp only at hSw);go_simp;try (with_reducible rfl))
 try simp only [Act.put,List.setIfInBounds_toArray,List.set_cons_zero,List.set_cons_succ]
 refine yg (i:=15) (oi:=⟨some 20,.fieldAddr 61 (.tmp 3) 7,_,_,_,_⟩) (v:=?v_d0) rfl (by kernel_rfl) (by kernel_rfl) (by kernel_rfl) (by kernel_rfl) (fun _ _ _ h=>h) (Or.inl ⟨by rfl,?hy_d0⟩) (by assumption) ?rest_d0
 case hy_d0=>(intro w hSw;(try dsimp only at hSw);go_simp;try (with_reducible rfl))
 try simp only [Act.put,List.setIfInBounds_toArray,List.set_cons_zero,List.set_cons_succ]
 refine yg (i:=16) (oi:=⟨some 21,.load 58 (.tmp 20),_,_,_,_⟩) (v:=?v_d1) rfl (by kernel_rfl) (by kernel_rfl) (by kernel_rfl) (by kernel_rfl) (fun _ _ _ h=>h) (Or.inl ⟨by rfl,?hy_d1⟩) (by assumption) ?rest_d1
 case hy_d1=>(intro w hSw;(try dsimp only at hSw);go_simp;try (with_reducible rfl))
 try simp only [Act.put,List.setIfInBounds_toArray,List.set_cons_zero,List.set_cons_succ]
 refine zh (i:=17) (o:=⟨some 22,.call { callee:=.value (.func 52),args:=#[(.tmp 19),(.tmp 21)],argTypes:=#[58,58] },_,_,_,_⟩) (by kernel_rfl) rfl (fun K hK=>?_)
 go_simp
 refine cZ (ZHx.out _ HB10.out) ?_
 rintro e w17 ⟨rfl,hbw17⟩
 go_wp2_with fail
 have HB17:Hid (Below X.heap.size X w17):=yj HB10.out hbw17
 clear hbw17 hHeld
 have hHeld:=(⟨HHd.out _ HB17.out,trivial⟩:_/\True)
 refine hK.out _ _ ⟨hHeld.1,fun _=>trivial⟩ ?_
 clear hK K
 refine yg (i:=18) (oi:=⟨some 23,.pick (.tmp 17) (.tmp 22) ((.const (.bool false))),_,_,_,_⟩) (v:=?v_d2) rfl (by kernel_rfl) (by kernel_rfl) (by kernel_rfl) (by kernel_rfl) (fun _ _ _ h=>h) (Or.inl ⟨by rfl,?hy_d2⟩) (by assumption) ?rest_d2
 case hy_d2=>(intro w hSw;(try dsimp only at hSw);go_simp;try (with_reducible rfl))
 try simp only [Act.put,List.setIfInBounds_toArray,List.set_cons_zero,List.set_cons_succ]
 refine yg (i:=19) (oi:=⟨some 24,.move (.tmp 23),_,_,_,_⟩) (v:=?v_d3) rfl (by kernel_rfl) (by kernel_rfl) (by kernel_rfl) (by kernel_rfl) (fun _ _ _ h=>h) (Or.inl ⟨by rfl,?hy_d3⟩) (by assumption) ?rest_d3
 case hy_d3=>(intro w hSw;(try dsimp only at hSw);go_simp;try (with_reducible rfl))
 try simp only [Act.put,List.setIfInBounds_toArray,List.set_cons_zero,List.set_cons_succ]
 refine yg (i:=20) (oi:=⟨some 25,.fieldAddr 61 (.tmp 2) 8,_,_,_,_⟩) (v:=?v_d4) rfl (by kernel_rfl) (by kernel_rfl) (by kernel_rfl) (by kernel_rfl) (fun _ _ _ h=>h) (Or.inl ⟨by rfl,?hy_d4⟩) (by assumption) ?rest_d4
 case hy_d4=>(intro w hSw;(try dsimp only at hSw);go_simp;try (with_reducible rfl))
 try simp only [Act.put,List.setIfInBounds_toArray,List.set_cons_zero,List.set_cons_succ]
 refine yg (i:=21) (oi:=⟨some 26,.load 58 (.tmp 25),_,_,_,_⟩) (v:=?v_d5) rfl (by kernel_rfl) (by kernel_rfl) (by kernel_rfl) (by kernel_rfl) (fun _ _ _ h=>h) (Or.inl ⟨by rfl,?hy_d5⟩) (by assumption) ?rest_d5
 case hy_d5=>(intro w hSw;(try dsimp only at hSw);go_simp;try (with_reducible rfl))
 try simp only [Act.put,List.setIfInBounds_toArray,List.set_cons_zero,List.set_cons_succ]
 refine yg (i:=22) (oi:=⟨some 27,.fieldAddr 61 (.tmp 3) 8,_,_,_,_⟩) (v:=?v_d6) rfl (by kernel_rfl) (by kernel_rfl) (by kernel_rfl) (by kernel_rfl) (fun _ _ _ h=>h) (Or.inl ⟨by rfl,?hy_d6⟩) (by assumption) ?rest_d6
 case hy_d6=>(intro w hSw;(try dsimp only at hSw);go_simp;try (with_reducible rfl))
 try simp only [Act.put,List.setIfInBounds_toArray,List.set_cons_zero,List.set_cons_succ]
 refine yg (i:=23) (oi:=⟨some 28,.load 58 (.tmp 27),_,_,_,_⟩) (v:=?v_d7) rfl (by kernel_rfl) (by kernel_rfl) (by kernel_rfl) (by kernel_rfl) (fun _ _ _ h=>h) (Or.inl ⟨by rfl,?hy_d7⟩) (by assumption) ?rest_d7
 case hy_d7=>(intro w hSw;(try dsimp only at hSw);go_simp;try (with_reducible rfl))
 try simp only [Act.put,List.setIfInBounds_toArray,List.set_cons_zero,List.set_cons_succ]
 refine zh (i:=24) (o:=⟨some 29,.call { callee:=.value (.func 52),args:=#[(.tmp 26),(.tmp 28)],argTypes:=#[58,58] },_,_,_,_⟩) (by kernel_rfl) rfl (fun K hK=>?_)
 go_simp
 refine cZ (ZHb.out _ HB17.out) ?_
 rintro e w24 ⟨rfl,hbw24⟩
 go_wp2_with fail
 have HB24:Hid (Below X.heap.size X w24):=yj HB17.out hbw24
 clear hbw24 hHeld
 have hHeld:=(⟨HHd.out _ HB24.out,trivial⟩:_/\True)
 refine hK.out _ _ ⟨hHeld.1,fun _=>trivial⟩ ?_
 clear hK K
 refine yg (i:=25) (oi:=⟨some 30,.pick (.tmp 24) (.tmp 29) ((.const (.bool false))),_,_,_,_⟩) (v:=?v_d8) rfl (by kernel_rfl) (by kernel_rfl) (by kernel_rfl) (by kernel_rfl) (fun _ _ _ h=>h) (Or.inl ⟨by rfl,?hy_d8⟩) (by assumption) ?rest_d8
 case hy_d8=>(intro w hSw;(try dsimp only at hSw);go_simp;try (with_reducible rfl))
 try simp only [Act.put,List.setIfInBounds_toArray,List.set_cons_zero,List.set_cons_succ]
 refine yg (i:=26) (oi:=⟨some 31,.move (.tmp 30),_,_,_,_⟩) (v:=?v_d9) rfl (by kernel_rfl) (by kernel_rfl) (by kernel_rfl) (by kernel_rfl) (fun _ _ _ h=>h) (Or.inl ⟨by rfl,?hy_d9⟩) (by assumption) ?rest_d9
 case hy_d9=>(intro w hSw;(try dsimp only at hSw);go_simp;try (with_reducible rfl))
 try simp only [Act.put,List.setIfInBounds_toArray,List.set_cons_zero,List.set_cons_succ]
 refine yg (i:=27) (oi:=⟨some 32,.fieldAddr 61 (.tmp 2) 9,_,_,_,_⟩) (v:=?v_ea) rfl (by kernel_rfl) (by kernel_rfl) (by kernel_rfl) (by kernel_rfl) (fun _ _ _ h=>h) (Or.inl ⟨by rfl,?hy_ea⟩) (by assumption) ?rest_ea
 case hy_ea=>(intro w hSw;(try dsimp only at hSw);go_simp;try (with_reducible rfl))
 try simp only [Act.put,List.setIfInBounds_toArray,List.set_cons_zero,List.set_cons_succ]
 refine yg (i:=28) (oi:=⟨some 33,.load 59 (.tmp 32),_,_,_,_⟩) (v:=?v_eb) rfl (by kernel_rfl) (by kernel_rfl) (by kernel_rfl) (by kernel_rfl) (fun _ _ _ h=>h) (Or.inl ⟨by rfl,?hy_eb⟩) (by assumption) ?rest_eb
 case hy_eb=>(intro w hSw;(try dsimp only at hSw);go_simp;try (with_reducible rfl))
 try simp only [Act.put,List.setIfInBounds_toArray,List.set_cons_zero,List.set_cons_succ]
 refine yg (i:=29) (oi:=⟨some 34,.fieldAddr 61 (.tmp 3) 9,_,_,_,_⟩) (v:=?v_ec) rfl (by kernel_rfl) (by kernel_rfl) (by kernel_rfl) (by kernel_rfl) (fun _ _ _ h=>h) (Or.inl ⟨by rfl,?hy_ec⟩) (by assumption) ?rest_ec
 case hy_ec=>(intro w hSw;(try dsimp only at hSw);go_simp;try (with_reducible rfl))
 try simp only [Act.put,List.setIfInBounds_toArray,List.set_cons_zero,List.set_cons_succ]
 refine yg (i:=30) (oi:=⟨some 35,.load 59 (.tmp 34),_,_,_,_⟩) (v:=?v_ed) rfl (by kernel_rfl) (by kernel_rfl) (by kernel_rfl) (by kernel_rfl) (fun _ _ _ h=>h) (Or.inl ⟨by rfl,?hy_ed⟩) (by assumption) ?rest_ed
 case hy_ed=>(intro w hSw;(try dsimp only at hSw);go_simp;try (with_reducible rfl))
 try simp only [Act.put,List.setIfInBounds_toArray,List.set_cons_zero,List.set_cons_succ]
 refine zh (i:=31) (o:=⟨some 36,.call { callee:=.value (.func 53),args:=#[(.tmp 33),(.tmp 35),Operand.func 52],argTypes:=#[59,59,124] },_,_,_,_⟩) (by kernel_rfl) rfl (fun K hK=>?_)
 go_simp
 refine cZ (ZHr.out _ HB24.out) ?_
 rintro e w31 ⟨rfl,hbw31⟩
 go_wp2_with fail
 have HB31:Hid (Below X.heap.size X w31):=yj HB24.out hbw31
 clear hbw31 hHeld
 have hHeld:=(⟨HHd.out _ HB31.out,trivial⟩:_/\True)
 refine hK.out _ _ ⟨hHeld.1,fun _=>trivial⟩ ?_
 clear hK K
 refine yg (i:=32) (oi:=⟨some 37,.pick (.tmp 31) (.tmp 36) ((.const (.bool false))),_,_,_,_⟩) (v:=?v_ee) rfl (by kernel_rfl) (by kernel_rfl) (by kernel_rfl) (by kernel_rfl) (fun _ _ _ h=>h) (Or.inl ⟨by rfl,?hy_ee⟩) (by assumption) ?rest_ee
 case hy_ee=>(intro w hSw;(try dsimp only at hSw);go_simp;try (with_reducible rfl))
 try simp only [Act.put,List.setIfInBounds_toArray,List.set_cons_zero,List.set_cons_succ]
 refine yg (i:=33) (oi:=⟨some 4,.assign (.tmp 37),_,_,_,_⟩) (v:=?v_ef) rfl (by kernel_rfl) (by kernel_rfl) (by kernel_rfl) (by kernel_rfl) (fun _ _ _ h=>h) (Or.inl ⟨by rfl,?hy_ef⟩) (by assumption) ?rest_ef
 case hy_ef=>(intro w hSw;(try dsimp only at hSw);go_simp;try (with_reducible rfl))
 try simp only [Act.put,List.setIfInBounds_toArray,List.set_cons_zero,List.set_cons_succ]
 refine Y4 (by kernel_rfl) ?_ _
 go_wp2_with fail
 go_ret
 exact ⟨rfl,yj HBX.out HB31.out⟩
end Go.Proofs.YthohnmplbjhjaaaGreatDoor
