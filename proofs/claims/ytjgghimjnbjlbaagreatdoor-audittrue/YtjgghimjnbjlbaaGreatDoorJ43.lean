/-
  Put together: AwScale, AwWeight.
-/
import Derived.Test.YtjgghimjnbjlbaaGreatDoorJ04
import Derived.Test.YtjgghimjnbjlbaaGreatDoorJ42
import Derived.Test.YtjgghimjnbjlbaaGreatDoorMdRegT
import Derived.BigQuiet
import Derived.Deep.CutRange
import Derived.Laws.ResultCell
namespace Go.Proofs.YtjgghimjnbjlbaaGreatDoor
open Go Go.RowKit
set_option maxRecDepth 10000
set_option maxHeartbeats 8000000
def scC (c:Nat->Int):Array Value:=#[.int .i64 (c 0),.int .i64 (c 1),.int .i64 (c 2),.int .i64 (c 3),.int .i64 (c 4),.int .i64 (c 5),.int .i64 (c 6),.int .i64 (c 7),.int .i64 (c 8),.int .i64 (c 9),.int .i64 (c 10),.int .i64 (c 11),.int .i64 (c 12),.int .i64 (c 13),.int .i64 (c 14),.int .i64 (c 15)]
def ScAt (w:World) (b:Nat) (c:Nat->Int):Prop:=w.heap[b]?=some (.cells (scC c) 85 (0,0))
def upd (c:Nat->Int) (i:Nat) (v:Int):Nat->Int:=fun j=>if j=i then v else c j
theorem y1X (c:Nat->Int) (i:Nat) (h:i<16):(scC c)[i]?=some (.int .i64 (c i)):=by
  unfold scC
  match i,h with
  | 0,_=>rfl
  | 1,_=>rfl
  | 2,_=>rfl
  | 3,_=>rfl
  | 4,_=>rfl
  | 5,_=>rfl
  | 6,_=>rfl
  | 7,_=>rfl
  | 8,_=>rfl
  | 9,_=>rfl
  | 10,_=>rfl
  | 11,_=>rfl
  | 12,_=>rfl
  | 13,_=>rfl
  | 14,_=>rfl
  | 15,_=>rfl
  | n+16,h=>omega
theorem y1Y (c:Nat->Int) (i:Nat) (h:i<16) (v:Int):(scC c).setIfInBounds i (.int .i64 v)=scC (upd c i v):=by
  match i,h with
  | 0,_=>rfl
  | 1,_=>rfl
  | 2,_=>rfl
  | 3,_=>rfl
  | 4,_=>rfl
  | 5,_=>rfl
  | 6,_=>rfl
  | 7,_=>rfl
  | 8,_=>rfl
  | 9,_=>rfl
  | 10,_=>rfl
  | 11,_=>rfl
  | 12,_=>rfl
  | 13,_=>rfl
  | 14,_=>rfl
  | 15,_=>rfl
  | n+16,h=>omega
theorem ScAt.cell {w:World} {b:Nat} {c:Nat->Int} (h:ScAt w b c) (i:Nat) (hi:i<16):w.cell? ⟨b,i,none⟩=some (.int .i64 (c i)):=(yb h i).trans (y1X c i hi)
theorem ScAt.frozen {w:World} {b:Nat} {c:Nat->Int} (h:ScAt w b c) (i:Nat):w.frozen? ⟨b,i,none⟩=false:=yl h i
theorem ScAt.lt {w:World} {b:Nat} {c:Nat->Int} (h:ScAt w b c):b<w.heap.size:=(hLt h)
theorem ScAt.set {w:World} {b:Nat} {c:Nat->Int} (h:ScAt w b c) (i:Nat) (hi:i<16) (v:Int):ScAt (w.setCell ⟨b,i,none⟩ (.int .i64 v)) b (upd c i v):=by
  have:=yB h i (.int .i64 v);rw [y1Y c i hi] at this;exact this
theorem ScAt.below {w w':World} {b:Nat} {c:Nat->Int} (h:ScAt w b c) (hb:Below w.heap.size w w'):ScAt w' b c:=(hb.block b h.lt).trans h
theorem wr64 (n:Int):IntKind.i64.wrap n=wrap64 n:=by simp only [IntKind.wrap_i64,wrap64]
theorem Y6 (a b:Int):(if a<b then b else a)=max a b:=by
  rw [Int.max_def]
  split <;> split <;> omega
theorem Ye {w w':World} {B:Nat} (h:Below B w w') (n:Nat):Below B w (w'.drewN n):=⟨h.os,h.tape,h.output,h.size,h.block⟩
theorem Zs (b:Nat) (c:Nat->Int) (w:World) (h:ScAt w b c):Calls Tryz.prog 66 #[.pointer (some ⟨b,0,none⟩)] w fun e w'=>e=.returned (.int .i64 (wrap64 (wrap64 (c 3+c 4)+c 11)))/\Below w.heap.size w w':=by
  have h3:=h.cell 3 (by decide);have h4:=h.cell 4 (by decide);have h11:=h.cell 11 (by decide);clear h;go_enter Tryz.func66,Tryz.ntmps66;go_wp2_with fail
  go_quiet (fail)
  go_wp2;go_ret;exact ⟨rfl,Ye (Below.refl _ _) _⟩
def lay1 (c:Nat->Int) (k:Nat) (i l:Int):Nat->Int:=
  let c1:=upd c k (wrap64 (c k+1))
  let c2:=if k=6 then upd c1 13 (wrap64 (c1 13+i)) else c1
  let c3:=upd c2 14 (max (c2 14) (wrap64 (wrap64 (wrap64 (c2 3+c2 4)+c2 11)-c2 13)))
  upd c3 15 (max (c3 15) l)
theorem y1V (b:Nat) (c:Nat->Int) (s:ByteArray) (k:Nat) (hk:k<13) (a1 a2 a3 a4 a5 a7 a8 a9:Value) (ia:Option Addr) (il ic:Nat) (w:World) (h:ScAt w b c):Calls Tryz.prog 49 #[.pointer (some ⟨b,0,none⟩),.string s,.agg #[.int .i64 (k:Int),a1,a2,a3,a4,a5,.slice ia il ic,a7,a8,a9]] w fun e w'=>e=.returned (.tuple #[])/\ScAt w' b (lay1 c k il s.size)/\Ofw (fun k=>k=b) w w':=by
  obtain ⟨W,hW⟩:∃ W,w.alloc (.cells #[.int .i64 (k:Int),a1,a2,a3,a4,a5,.slice ia il ic,a7,a8,a9] 91)=W:=⟨_,rfl⟩;have hN:W.heap[w.heap.size]?=some (.cells #[.int .i64 (k:Int),a1,a2,a3,a4,a5,.slice ia il ic,a7,a8,a9] 91 (0,0)):=hAe hW;have hbW:Below w.heap.size w W:=bAe hW;have HSc:Hid (ScAt W b c):=h.below hbW;have k0:W.cell? ⟨w.heap.size,0,none⟩=some (.int .i64 (k:Int)):=yb hN 0;have k5:W.cell? ⟨w.heap.size,6,none⟩=some (.slice ia il ic):=yb hN 6;go_enter Tryz.func49,Tryz.ntmps49;go_wp2_with fail
  have hkI:(0:Int)<=(k:Int):=by omega
  have hkJ:(k:Int)<13:=by omega
  have ck:W.cell? ⟨b,k,none⟩=some (.int .i64 (c k)):=HSc.out.cell k (by omega);have fk:W.frozen? ⟨b,k,none⟩=false:=HSc.out.frozen k;go_region;obtain ⟨W1,hW1⟩:∃ W1,(W.setCell ⟨b,k,none⟩ (.int .i64 (wrap64 (c k+1)))).drew=W1:=⟨_,rfl⟩;rw [hW1];have hsc1:ScAt W1 b (upd c k (wrap64 (c k+1))):=by rw [<-hW1];exact HSc.out.set k (by omega) _
  have hof1:Ofw (fun k=>k=b) W W1:=by rw [<-hW1];exact (Ofw.set (S:=fun k=>k=b) _ rfl).trans (Ofw.of_below ((Below.refl _ _).drew))
  have hne:w.heap.size≠b:=by have:=h.lt;omega
  have hlt:w.heap.size<W.heap.size:=(hLt hN);have hN1:W1.heap[w.heap.size]?=some (.cells #[.int .i64 (k:Int),a1,a2,a3,a4,a5,.slice ia il ic,a7,a8,a9] 91 (0,0)):=(hof1.block _ hlt hne).trans hN;have HO1:Hid (Ofw (fun k=>k=b) w W1):=(Ofw.of_below hbW).trans hof1;obtain ⟨c1,hc1⟩:∃ c1,upd c k (wrap64 (c k+1))=c1:=⟨_,rfl⟩;have HC1:Hid (upd c k (wrap64 (c k+1))=c1):=hc1;rw [hc1] at hsc1;have HS1:Hid (ScAt W1 b c1):=hsc1;have l0:W1.cell? ⟨w.heap.size,0,none⟩=some (.int .i64 (k:Int)):=yb hN1 0;have l6:W1.cell? ⟨w.heap.size,6,none⟩=some (.slice ia il ic):=yb hN1 6;have HH:Hid (b<w.heap.size):=h.lt;clear hW1 hc1 ck fk k0 k5 hN hbW HSc hsc1 hof1 hN1 hlt h
  by_cases hk6:(k:Int)=6
  case neg=>
    have hb6:((k:Int)==6)=false:=by simpa using hk6
    obtain ⟨c2,hc2⟩:∃ c2,c1=c2:=⟨_,rfl⟩;have HC2:Hid ((if k=6 then upd c1 13 (wrap64 (c1 13+(il:Int))) else c1)=c2):=by
      show _=_;rw [if_neg (by omega)];exact hc2
    have HS2:Hid (ScAt W1 b c2):=by rw [<-hc2];exact HS1.out
    have HO2:Hid (Ofw (fun k=>k=b) w W1):=HO1.out;clear hc2;go_wp2_with fail
    clear l0 l6 HS1 HO1;generalize W1=W2 at HS2 HO2 ⊢
    have HRw:Hid (∀ w',ScAt w' b c2->Calls Tryz.prog 66 #[.pointer (some ⟨b,0,none⟩)] w' fun e w''=>e=.returned (.int .i64 (wrap64 (wrap64 (c2 3+c2 4)+c2 11)))/\Below w'.heap.size w' w''):=fun w' h=>Zs b c2 w' h
    have HU0:Hid (ScAt W2.drew b c2):=HS2.out.below (Below.refl _ _).drew;have HU1:Hid (Ofw (fun k=>k=b) w W2.drew):=HO2.out.trans (Ofw.of_below (Below.refl _ _).drew);obtain ⟨M,hM⟩:∃ M,max (c2 14) (wrap64 (wrap64 (wrap64 (c2 3+c2 4)+c2 11)-c2 13))=M:=⟨_,rfl⟩;have HM:Hid (max (c2 14) (wrap64 (wrap64 (wrap64 (c2 3+c2 4)+c2 11)-c2 13))=M):=hM;refine zt (fun _=>True) (fun w'=>w'.cell? ⟨b,13,none⟩=some (.int .i64 (c2 13))/\w'.cell? ⟨b,14,none⟩=some (.int .i64 (c2 14))) [17] (by kernel_rfl) ⟨trivial,HU0.out.cell 13 (by decide),HU0.out.cell 14 (by decide)⟩ (fun hHeld=>?_);generalize W2.drew=U at HU0 HU1 hHeld ⊢
    refine tB (i:=0) (oi:=⟨some 30,.move (.tmp 0),_,_,_,_⟩) (v:=?v_aa) ?hy_aa (by assumption) ?rest_aa
    case hy_aa=>(intro w hSw;(try dsimp only at hSw);go_simp;try (with_reducible rfl))
    try simp only [Act.put,q1,q2,q3]
    refine tB (i:=1) (oi:=⟨some 31,.move (.tmp 0),_,_,_,_⟩) (v:=?v_ab) ?hy_ab (by assumption) ?rest_ab
    case hy_ab=>(intro w hSw;(try dsimp only at hSw);go_simp;try (with_reducible rfl))
    try simp only [Act.put,q1,q2,q3]
    refine tB (i:=2) (oi:=⟨some 32,.nilCheck (.tmp 31),_,_,_,_⟩) (v:=?v_ac) ?hy_ac (by assumption) ?rest_ac
    case hy_ac=>(intro w hSw;(try dsimp only at hSw);go_simp;try (with_reducible rfl))
    try simp only [Act.put,q1,q2,q3]
    refine tB (i:=3) (oi:=⟨some 33,.fieldAddr 85 (.tmp 32) 2,_,_,_,_⟩) (v:=?v_ad) ?hy_ad (by assumption) ?rest_ad
    case hy_ad=>(intro w hSw;(try dsimp only at hSw);go_simp;try (with_reducible rfl))
    try simp only [Act.put,q1,q2,q3]
    refine tA (i:=4) (oi:=⟨some 34,.load 3 (.tmp 33),_,_,_,_⟩) (v:=?v_ae) ?hy_ae (by assumption) ?rest_ae
    case hy_ae=>(intro w hSw;(try dsimp only at hSw);go_simp;try (with_reducible rfl))
    try simp only [Act.put,q1,q2,q3]
    refine tB (i:=5) (oi:=⟨some 35,.move (.tmp 0),_,_,_,_⟩) (v:=?v_af) ?hy_af (by assumption) ?rest_af
    case hy_af=>(intro w hSw;(try dsimp only at hSw);go_simp;try (with_reducible rfl))
    try simp only [Act.put,q1,q2,q3]
    refine tB (i:=6) (oi:=⟨some 36,.nilCheck (.tmp 35),_,_,_,_⟩) (v:=?v_ag) ?hy_ag (by assumption) ?rest_ag
    case hy_ag=>(intro w hSw;(try dsimp only at hSw);go_simp;try (with_reducible rfl))
    try simp only [Act.put,q1,q2,q3]
    refine tB (i:=7) (oi:=⟨some 37,.fieldAddr 85 (.tmp 36) 0,_,_,_,_⟩) (v:=?v_ah) ?hy_ah (by assumption) ?rest_ah
    case hy_ah=>(intro w hSw;(try dsimp only at hSw);go_simp;try (with_reducible rfl))
    try simp only [Act.put,q1,q2,q3]
    refine tB (i:=9) (oi:=⟨some 39,.move (.tmp 0),_,_,_,_⟩) (v:=?v_ai) ?hy_ai (by assumption) ?rest_ai
    case hy_ai=>(intro w hSw;(try dsimp only at hSw);go_simp;try (with_reducible rfl))
    try simp only [Act.put,q1,q2,q3]
    refine tB (i:=10) (oi:=⟨some 40,.nilCheck (.tmp 39),_,_,_,_⟩) (v:=?v_as) ?hy_as (by assumption) ?rest_as
    case hy_as=>(intro w hSw;(try dsimp only at hSw);go_simp;try (with_reducible rfl))
    try simp only [Act.put,q1,q2,q3]
    refine tB (i:=11) (oi:=⟨some 41,.fieldAddr 85 (.tmp 40) 1,_,_,_,_⟩) (v:=?v_at) ?hy_at (by assumption) ?rest_at
    case hy_at=>(intro w hSw;(try dsimp only at hSw);go_simp;try (with_reducible rfl))
    try simp only [Act.put,q1,q2,q3]
    refine tA (i:=12) (oi:=⟨some 42,.load 3 (.tmp 41),_,_,_,_⟩) (v:=?v_au) ?hy_au (by assumption) ?rest_au
    case hy_au=>(intro w hSw;(try dsimp only at hSw);go_simp;try (with_reducible rfl))
    try simp only [Act.put,q1,q2,q3]
    refine yF (i:=8) (o:=⟨some 38,.call { callee:=.value (.func 66),args:=#[(.tmp 37)],argTypes:=#[83] },_,_,_,_⟩) (by kernel_rfl) rfl (fun K hK=>?_);go_simp;refine cA (HRw.out U HU0.out) ?_;rintro e w1 ⟨rfl,hb1⟩;have HV0:Hid (ScAt w1 b c2):=HU0.out.below hb1;have HV1:Hid (Ofw (fun k=>k=b) w w1):=HU1.out.trans (Ofw.of_below hb1);clear hb1 HRw;go_wp2_with fail
    have fr:w1.frozen? ⟨b,14,none⟩=false:=HV0.out.frozen 14;refine hK.out _ _ ⟨trivial,fun _=>⟨HV0.out.cell 13 (by decide),HV0.out.cell 14 (by decide)⟩⟩ ?_;have hHeld:=(⟨trivial,HV0.out.cell 13 (by decide),HV0.out.cell 14 (by decide)⟩:True/\_/\_);clear hK K;try simp only [Act.put,q1,q2,q3]
    refine tB (i:=13) (oi:=⟨some 43,.binOp .sub 3 (.tmp 38) (.tmp 42) 3,_,_,_,_⟩) (v:=?v_av) ?hy_av (by assumption) ?rest_av
    case hy_av=>(intro w hSw;(try dsimp only at hSw);go_simp;try (with_reducible rfl))
    try simp only [Act.put,q1,q2,q3]
    refine zL (i:=14) (oi:=⟨some 44,.call { callee:=.builtin .max,args:=#[(.tmp 34),(.tmp 43)],argTypes:=#[3,3] },_,_,_,_⟩) (v:=.int .i64 M) rfl (by kernel_rfl) (by kernel_rfl) (by kernel_rfl) (by kernel_rfl) (fun _ _ _ h=>h) (Or.inl ⟨by rfl,?hy_aw⟩) (by assumption) ?rest_aw
    case hy_aw=>(intro w hSw;go_simp;first | (rw [wr64,Y6];exact HM.out) | (rw [wr64];exact HM.out) | exact HM.out)
    try simp only [Act.put,q1,q2,q3]
    refine tB (i:=15) (oi:=⟨some 45,.nilCheck (.tmp 30),_,_,_,_⟩) (v:=?v_ax) ?hy_ax (by assumption) ?rest_ax
    case hy_ax=>(intro w hSw;(try dsimp only at hSw);go_simp;try (with_reducible rfl))
    try simp only [Act.put,q1,q2,q3]
    refine tB (i:=16) (oi:=⟨some 46,.fieldAddr 85 (.tmp 45) 2,_,_,_,_⟩) (v:=?v_ay) ?hy_ay (by assumption) ?rest_ay
    case hy_ay=>(intro w hSw;(try dsimp only at hSw);go_simp;try (with_reducible rfl))
    try simp only [Act.put,q1,q2,q3]
    refine yX (i:=17) (o:=⟨none,.store 3 (.tmp 46) (.tmp 44),_,_,_,_⟩) (by kernel_rfl) rfl (by kernel_rfl) (fun K hK=>?_);go_simp;refine hK.out _ _ ?sh_az ?rest_az
    case sh_az=>((try dsimp only);try trivial)
    clear hK K;try simp only [Act.put,q1,q2,q3]
    refine zu (by kernel_rfl) ?_ _;obtain ⟨W3,hW3⟩:∃ W3,w1.setCell ⟨b,14,none⟩ (.int .i64 M)=W3:=⟨_,rfl⟩;try rw [hW3]
    have hsc3:ScAt W3 b (upd c2 14 M):=by rw [<-hW3];exact HV0.out.set 14 (by decide) _
    have HO3:Hid (Ofw (fun k=>k=b) w W3):=by rw [<-hW3];exact HV1.out.trans (Ofw.set (S:=fun k=>k=b) _ rfl)
    obtain ⟨c3,hc3⟩:∃ c3,upd c2 14 M=c3:=⟨_,rfl⟩;have HC3:Hid (upd c2 14 (max (c2 14) (wrap64 (wrap64 (wrap64 (c2 3+c2 4)+c2 11)-c2 13)))=c3):=by rw [HM.out];exact hc3
    rw [hc3] at hsc3;have HS3:Hid (ScAt W3 b c3):=hsc3;have m15:W3.cell? ⟨b,15,none⟩=some (.int .i64 (c3 15)):=hsc3.cell 15 (by decide);have f15:W3.frozen? ⟨b,15,none⟩=false:=hsc3.frozen 15;clear hM hW3 hc3 hsc3 HV0 HV1 hHeld fr HU0 HU1;have hlay:Hid (lay1 c k il s.size=upd c3 15 (max (c3 15) (s.size:Int))):=by
      show _=_;dsimp only [lay1];rw [HC1.out,HC2.out,HC3.out]
    by_cases hml:c3 15<(s.size:Int)
    · go_wp2_with fail
      go_end0;refine ⟨rfl,?_,HO3.out.trans (Ofw.set (S:=fun k=>k=b) _ rfl)⟩;rw [hlay.out,<-Y6,if_pos (by omega)];exact HS3.out.set 15 (by decide) _
    · go_wp2_with fail
      go_end0;refine ⟨rfl,?_,HO3.out.trans (Ofw.set (S:=fun k=>k=b) _ rfl)⟩;rw [hlay.out,<-Y6,if_neg (by omega)];exact HS3.out.set 15 (by decide) _
  case pos=>
    have hb6:((k:Int)==6)=true:=by simpa using hk6
    have l13:W1.cell? ⟨b,13,none⟩=some (.int .i64 (c1 13)):=HS1.out.cell 13 (by decide);have l13f:W1.frozen? ⟨b,13,none⟩=false:=HS1.out.frozen 13;go_wp2_with fail
    go_region;obtain ⟨W2,hW2⟩:∃ W2,(W1.setCell ⟨b,13,none⟩ (.int .i64 (wrap64 (c1 13+(il:Int))))).drew=W2:=⟨_,rfl⟩;rw [hW2];obtain ⟨c2,hc2⟩:∃ c2,upd c1 13 (wrap64 (c1 13+(il:Int)))=c2:=⟨_,rfl⟩;have HC2:Hid ((if k=6 then upd c1 13 (wrap64 (c1 13+(il:Int))) else c1)=c2):=by
      show _=_;rw [if_pos (by omega)];exact hc2
    have HS2:Hid (ScAt W2 b c2):=by rw [<-hW2,<-hc2];exact HS1.out.set 13 (by decide) _
    have HO2:Hid (Ofw (fun k=>k=b) w W2):=by rw [<-hW2];exact (HO1.out.trans (Ofw.set (S:=fun k=>k=b) _ rfl)).trans (Ofw.of_below (Below.refl _ _).drew)
    clear hc2 hW2 l0 l6 l13 l13f;go_wp2_with fail
    have HRw:Hid (∀ w',ScAt w' b c2->Calls Tryz.prog 66 #[.pointer (some ⟨b,0,none⟩)] w' fun e w''=>e=.returned (.int .i64 (wrap64 (wrap64 (c2 3+c2 4)+c2 11)))/\Below w'.heap.size w' w''):=fun w' h=>Zs b c2 w' h
    have HU0:Hid (ScAt W2.drew b c2):=HS2.out.below (Below.refl _ _).drew;have HU1:Hid (Ofw (fun k=>k=b) w W2.drew):=HO2.out.trans (Ofw.of_below (Below.refl _ _).drew);obtain ⟨M,hM⟩:∃ M,max (c2 14) (wrap64 (wrap64 (wrap64 (c2 3+c2 4)+c2 11)-c2 13))=M:=⟨_,rfl⟩;have HM:Hid (max (c2 14) (wrap64 (wrap64 (wrap64 (c2 3+c2 4)+c2 11)-c2 13))=M):=hM;refine zt (fun _=>True) (fun w'=>w'.cell? ⟨b,13,none⟩=some (.int .i64 (c2 13))/\w'.cell? ⟨b,14,none⟩=some (.int .i64 (c2 14))) [17] (by kernel_rfl) ⟨trivial,HU0.out.cell 13 (by decide),HU0.out.cell 14 (by decide)⟩ (fun hHeld=>?_);generalize W2.drew=U at HU0 HU1 hHeld ⊢
    refine tB (i:=0) (oi:=⟨some 30,.move (.tmp 0),_,_,_,_⟩) (v:=?v_aj) ?hy_aj (by assumption) ?rest_aj
    case hy_aj=>(intro w hSw;(try dsimp only at hSw);go_simp;try (with_reducible rfl))
    try simp only [Act.put,q1,q2,q3]
    refine tB (i:=1) (oi:=⟨some 31,.move (.tmp 0),_,_,_,_⟩) (v:=?v_ak) ?hy_ak (by assumption) ?rest_ak
    case hy_ak=>(intro w hSw;(try dsimp only at hSw);go_simp;try (with_reducible rfl))
    try simp only [Act.put,q1,q2,q3]
    refine tB (i:=2) (oi:=⟨some 32,.nilCheck (.tmp 31),_,_,_,_⟩) (v:=?v_al) ?hy_al (by assumption) ?rest_al
    case hy_al=>(intro w hSw;(try dsimp only at hSw);go_simp;try (with_reducible rfl))
    try simp only [Act.put,q1,q2,q3]
    refine tB (i:=3) (oi:=⟨some 33,.fieldAddr 85 (.tmp 32) 2,_,_,_,_⟩) (v:=?v_am) ?hy_am (by assumption) ?rest_am
    case hy_am=>(intro w hSw;(try dsimp only at hSw);go_simp;try (with_reducible rfl))
    try simp only [Act.put,q1,q2,q3]
    refine tA (i:=4) (oi:=⟨some 34,.load 3 (.tmp 33),_,_,_,_⟩) (v:=?v_an) ?hy_an (by assumption) ?rest_an
    case hy_an=>(intro w hSw;(try dsimp only at hSw);go_simp;try (with_reducible rfl))
    try simp only [Act.put,q1,q2,q3]
    refine tB (i:=5) (oi:=⟨some 35,.move (.tmp 0),_,_,_,_⟩) (v:=?v_ao) ?hy_ao (by assumption) ?rest_ao
    case hy_ao=>(intro w hSw;(try dsimp only at hSw);go_simp;try (with_reducible rfl))
    try simp only [Act.put,q1,q2,q3]
    refine tB (i:=6) (oi:=⟨some 36,.nilCheck (.tmp 35),_,_,_,_⟩) (v:=?v_ap) ?hy_ap (by assumption) ?rest_ap
    case hy_ap=>(intro w hSw;(try dsimp only at hSw);go_simp;try (with_reducible rfl))
    try simp only [Act.put,q1,q2,q3]
    refine tB (i:=7) (oi:=⟨some 37,.fieldAddr 85 (.tmp 36) 0,_,_,_,_⟩) (v:=?v_aq) ?hy_aq (by assumption) ?rest_aq
    case hy_aq=>(intro w hSw;(try dsimp only at hSw);go_simp;try (with_reducible rfl))
    try simp only [Act.put,q1,q2,q3]
    refine tB (i:=9) (oi:=⟨some 39,.move (.tmp 0),_,_,_,_⟩) (v:=?v_ar) ?hy_ar (by assumption) ?rest_ar
    case hy_ar=>(intro w hSw;(try dsimp only at hSw);go_simp;try (with_reducible rfl))
    try simp only [Act.put,q1,q2,q3]
    refine tB (i:=10) (oi:=⟨some 40,.nilCheck (.tmp 39),_,_,_,_⟩) (v:=?v_a0) ?hy_a0 (by assumption) ?rest_a0
    case hy_a0=>(intro w hSw;(try dsimp only at hSw);go_simp;try (with_reducible rfl))
    try simp only [Act.put,q1,q2,q3]
    refine tB (i:=11) (oi:=⟨some 41,.fieldAddr 85 (.tmp 40) 1,_,_,_,_⟩) (v:=?v_a1) ?hy_a1 (by assumption) ?rest_a1
    case hy_a1=>(intro w hSw;(try dsimp only at hSw);go_simp;try (with_reducible rfl))
    try simp only [Act.put,q1,q2,q3]
    refine tA (i:=12) (oi:=⟨some 42,.load 3 (.tmp 41),_,_,_,_⟩) (v:=?v_a2) ?hy_a2 (by assumption) ?rest_a2
    case hy_a2=>(intro w hSw;(try dsimp only at hSw);go_simp;try (with_reducible rfl))
    try simp only [Act.put,q1,q2,q3]
    refine yF (i:=8) (o:=⟨some 38,.call { callee:=.value (.func 66),args:=#[(.tmp 37)],argTypes:=#[83] },_,_,_,_⟩) (by kernel_rfl) rfl (fun K hK=>?_);go_simp;refine cA (HRw.out U HU0.out) ?_;rintro e w1 ⟨rfl,hb1⟩;have HV0:Hid (ScAt w1 b c2):=HU0.out.below hb1;have HV1:Hid (Ofw (fun k=>k=b) w w1):=HU1.out.trans (Ofw.of_below hb1);clear hb1 HRw;go_wp2_with fail
    have fr:w1.frozen? ⟨b,14,none⟩=false:=HV0.out.frozen 14;refine hK.out _ _ ⟨trivial,fun _=>⟨HV0.out.cell 13 (by decide),HV0.out.cell 14 (by decide)⟩⟩ ?_;have hHeld:=(⟨trivial,HV0.out.cell 13 (by decide),HV0.out.cell 14 (by decide)⟩:True/\_/\_);clear hK K;try simp only [Act.put,q1,q2,q3]
    refine tB (i:=13) (oi:=⟨some 43,.binOp .sub 3 (.tmp 38) (.tmp 42) 3,_,_,_,_⟩) (v:=?v_a3) ?hy_a3 (by assumption) ?rest_a3
    case hy_a3=>(intro w hSw;(try dsimp only at hSw);go_simp;try (with_reducible rfl))
    try simp only [Act.put,q1,q2,q3]
    refine zL (i:=14) (oi:=⟨some 44,.call { callee:=.builtin .max,args:=#[(.tmp 34),(.tmp 43)],argTypes:=#[3,3] },_,_,_,_⟩) (v:=.int .i64 M) rfl (by kernel_rfl) (by kernel_rfl) (by kernel_rfl) (by kernel_rfl) (fun _ _ _ h=>h) (Or.inl ⟨by rfl,?hy_a4⟩) (by assumption) ?rest_a4
    case hy_a4=>(intro w hSw;go_simp;first | (rw [wr64,Y6];exact HM.out) | (rw [wr64];exact HM.out) | exact HM.out)
    try simp only [Act.put,q1,q2,q3]
    refine tB (i:=15) (oi:=⟨some 45,.nilCheck (.tmp 30),_,_,_,_⟩) (v:=?v_a5) ?hy_a5 (by assumption) ?rest_a5
    case hy_a5=>(intro w hSw;(try dsimp only at hSw);go_simp;try (with_reducible rfl))
    try simp only [Act.put,q1,q2,q3]
    refine tB (i:=16) (oi:=⟨some 46,.fieldAddr 85 (.tmp 45) 2,_,_,_,_⟩) (v:=?v_a6) ?hy_a6 (by assumption) ?rest_a6
    case hy_a6=>(intro w hSw;(try dsimp only at hSw);go_simp;try (with_reducible rfl))
    try simp only [Act.put,q1,q2,q3]
    refine yX (i:=17) (o:=⟨none,.store 3 (.tmp 46) (.tmp 44),_,_,_,_⟩) (by kernel_rfl) rfl (by kernel_rfl) (fun K hK=>?_);go_simp;refine hK.out _ _ ?sh_a7 ?rest_a7
    case sh_a7=>((try dsimp only);try trivial)
    clear hK K;try simp only [Act.put,q1,q2,q3]
    refine zu (by kernel_rfl) ?_ _;obtain ⟨W3,hW3⟩:∃ W3,w1.setCell ⟨b,14,none⟩ (.int .i64 M)=W3:=⟨_,rfl⟩;try rw [hW3]
    have hsc3:ScAt W3 b (upd c2 14 M):=by rw [<-hW3];exact HV0.out.set 14 (by decide) _
    have HO3:Hid (Ofw (fun k=>k=b) w W3):=by rw [<-hW3];exact HV1.out.trans (Ofw.set (S:=fun k=>k=b) _ rfl)
    obtain ⟨c3,hc3⟩:∃ c3,upd c2 14 M=c3:=⟨_,rfl⟩;have HC3:Hid (upd c2 14 (max (c2 14) (wrap64 (wrap64 (wrap64 (c2 3+c2 4)+c2 11)-c2 13)))=c3):=by rw [HM.out];exact hc3
    rw [hc3] at hsc3;have HS3:Hid (ScAt W3 b c3):=hsc3;have m15:W3.cell? ⟨b,15,none⟩=some (.int .i64 (c3 15)):=hsc3.cell 15 (by decide);have f15:W3.frozen? ⟨b,15,none⟩=false:=hsc3.frozen 15;clear hM hW3 hc3 hsc3 HV0 HV1 hHeld fr HU0 HU1;have hlay:Hid (lay1 c k il s.size=upd c3 15 (max (c3 15) (s.size:Int))):=by
      show _=_;dsimp only [lay1];rw [HC1.out,HC2.out,HC3.out]
    by_cases hml:c3 15<(s.size:Int)
    · go_wp2_with fail
      go_end0;refine ⟨rfl,?_,HO3.out.trans (Ofw.set (S:=fun k=>k=b) _ rfl)⟩;rw [hlay.out,<-Y6,if_pos (by omega)];exact HS3.out.set 15 (by decide) _
    · go_wp2_with fail
      go_end0;refine ⟨rfl,?_,HO3.out.trans (Ofw.set (S:=fun k=>k=b) _ rfl)⟩;rw [hlay.out,<-Y6,if_neg (by omega)];exact HS3.out.set 15 (by decide) _
end Go.Proofs.YtjgghimjnbjlbaaGreatDoor

namespace Go.Proofs.YtjgghimjnbjlbaaGreatDoor
open Go Go.RowKit
set_option maxRecDepth 10000
set_option maxHeartbeats 8000000
theorem ScAt.all {w:World} {b:Nat} {c:Nat->Int} (h:ScAt w b c):w.cell? ⟨b,0,none⟩=some (.int .i64 (c 0))/\w.cell? ⟨b,1,none⟩=some (.int .i64 (c 1))/\w.cell? ⟨b,2,none⟩=some (.int .i64 (c 2))/\w.cell? ⟨b,3,none⟩=some (.int .i64 (c 3))/\w.cell? ⟨b,4,none⟩=some (.int .i64 (c 4))/\w.cell? ⟨b,5,none⟩=some (.int .i64 (c 5))/\w.cell? ⟨b,6,none⟩=some (.int .i64 (c 6))/\w.cell? ⟨b,7,none⟩=some (.int .i64 (c 7))/\w.cell? ⟨b,8,none⟩=some (.int .i64 (c 8))/\w.cell? ⟨b,9,none⟩=some (.int .i64 (c 9))/\w.cell? ⟨b,10,none⟩=some (.int .i64 (c 10))/\w.cell? ⟨b,11,none⟩=some (.int .i64 (c 11))/\w.cell? ⟨b,12,none⟩=some (.int .i64 (c 12))/\w.cell? ⟨b,13,none⟩=some (.int .i64 (c 13))/\w.cell? ⟨b,14,none⟩=some (.int .i64 (c 14))/\w.cell? ⟨b,15,none⟩=some (.int .i64 (c 15)):=⟨h.cell 0 (by decide),h.cell 1 (by decide),h.cell 2 (by decide),h.cell 3 (by decide),h.cell 4 (by decide),h.cell 5 (by decide),h.cell 6 (by decide),h.cell 7 (by decide),h.cell 8 (by decide),h.cell 9 (by decide),h.cell 10 (by decide),h.cell 11 (by decide),h.cell 12 (by decide),h.cell 13 (by decide),h.cell 14 (by decide),h.cell 15 (by decide)⟩
def sumW (c:Nat->Int):Nat->Int
  | 0=>0
  | n+1=>wrap64 (sumW c n+c n)
theorem y1Z (b:Nat) (c:Nat->Int) (w:World) (h:ScAt w b c):Calls Tryz.prog 67 #[.pointer (some ⟨b,0,none⟩)] w fun e w'=>e=.returned (.int .i64 (sumW c 13))/\Below w.heap.size w w':=by
  have HS:Hid (ScAt w b c):=h;clear h;go_enter Tryz.func67,Tryz.ntmps67;go_wp2_with fail
  go_loopw [3,7] (fun nv iv wr=>∃ i:Nat,iv=.int .i64 (i:Int)/\i<=13/\Hid (nv=.int .i64 (sumW c i))/\Hid (Below w.heap.size w wr)) (fun _ iv _=>13-(intOf iv).toNat)
  case atStart=>exact ⟨0,rfl,Nat.zero_le _,rfl,Below.refl _ _⟩
  case round=>
    obtain ⟨i,rfl,hi,HN,HB⟩:=hrel;obtain ⟨n,hn⟩:∃ n,sumW c i=n:=⟨_,rfl⟩;have hnv:=HN.out;rw [hn] at hnv;subst hnv;have HN2:Hid (sumW c i=n):=hn;clear HN hn;have HSr:Hid (ScAt wr b c):=HS.out.below HB.out
    by_cases hin:i<13
    · have hiI:(i:Int)<13:=by omega
      have ci:wr.cell? ⟨b,i,none⟩=some (.int .i64 (c i)):=HSr.out.cell i (by omega);go_wp2_with fail
      go_roundw
      case rel=>exact ⟨i+1,by go_num,by omega,by show _=_;unfold sumW;rw [HN2.out],HB.out⟩
      case measure=>simp [intOf];omega
    · have hiI:¬ (i:Int)<13:=by omega
      have hi13:i=13:=by omega
      go_wp2_with fail
      go_ret;refine ⟨?_,HB.out⟩;rw [<-hi13,HN2.out];rfl
def wtC (c:Nat->Int) (n y r:Int):Array Value:=#[.int .i64 n,.int .i64 y,.int .i64 r,.int .i64 (c 13),.int .i64 (c 14),.int .i64 (c 15),.int .i64 (c 0),.int .i64 (c 1),.int .i64 (c 2),.int .i64 (c 3),.int .i64 (c 4),.int .i64 (c 5),.int .i64 (c 6),.int .i64 (c 7),.int .i64 (c 8),.int .i64 (c 9),.int .i64 (c 10),.int .i64 (c 11),.int .i64 (c 12)]
theorem infW:(Tryz.prog.info? 55).map (·.size)=some 19:=by kernel_rfl
theorem y1W (b:Nat) (c:Nat->Int) (y:Int) (w:World) (h:ScAt w b c):Calls Tryz.prog 50 #[.pointer (some ⟨b,0,none⟩),.int .i64 y] w fun e w'=>e=.returned (.agg (wtC c (sumW c 13) y (wrap64 (wrap64 (c 3+c 4)+c 11))))/\Below w.heap.size w w':=by
  obtain ⟨W,hW⟩:∃ W,w.alloc (.cells #[.int .i64 0,.int .i64 0,.int .i64 0,.int .i64 0,.int .i64 0,.int .i64 0,.int .i64 0,.int .i64 0,.int .i64 0,.int .i64 0,.int .i64 0,.int .i64 0,.int .i64 0,.int .i64 0,.int .i64 0,.int .i64 0,.int .i64 0,.int .i64 0,.int .i64 0] 55)=W:=⟨_,rfl⟩;have hN:W.heap[w.heap.size]?=some (.cells #[.int .i64 0,.int .i64 0,.int .i64 0,.int .i64 0,.int .i64 0,.int .i64 0,.int .i64 0,.int .i64 0,.int .i64 0,.int .i64 0,.int .i64 0,.int .i64 0,.int .i64 0,.int .i64 0,.int .i64 0,.int .i64 0,.int .i64 0,.int .i64 0,.int .i64 0] 55 (0,0)):=hAe hW;have hbW:Below w.heap.size w W:=bAe hW;have HSc:Hid (ScAt W b c):=h.below hbW;have HBW:Hid (Below w.heap.size w W):=hbW
  have HN:Hid (W.heap[w.heap.size]?=some (.cells #[.int .i64 0,.int .i64 0,.int .i64 0,.int .i64 0,.int .i64 0,.int .i64 0,.int .i64 0,.int .i64 0,.int .i64 0,.int .i64 0,.int .i64 0,.int .i64 0,.int .i64 0,.int .i64 0,.int .i64 0,.int .i64 0,.int .i64 0,.int .i64 0,.int .i64 0] 55 (0,0))):=hN;have hne:b≠w.heap.size:=by have:=h.lt;omega
  have HRw:Hid (∀ w',ScAt w' b c->Calls Tryz.prog 66 #[.pointer (some ⟨b,0,none⟩)] w' fun e w''=>e=.returned (.int .i64 (wrap64 (wrap64 (c 3+c 4)+c 11)))/\Below w'.heap.size w' w''):=fun w' h=>Zs b c w' h
  have HSt:Hid (∀ w',ScAt w' b c->Calls Tryz.prog 67 #[.pointer (some ⟨b,0,none⟩)] w' fun e w''=>e=.returned (.int .i64 (sumW c 13))/\Below w'.heap.size w' w''):=fun w' h=>y1Z b c w' h
  have HH:Hid (Below w.heap.size w W.drew/\ScAt W.drew b c/\W.drew.heap[w.heap.size]?=some (.cells #[.int .i64 0,.int .i64 0,.int .i64 0,.int .i64 0,.int .i64 0,.int .i64 0,.int .i64 0,.int .i64 0,.int .i64 0,.int .i64 0,.int .i64 0,.int .i64 0,.int .i64 0,.int .i64 0,.int .i64 0,.int .i64 0,.int .i64 0,.int .i64 0,.int .i64 0] 55 (0,0))):=⟨hbW.drew,HSc.out,hN⟩;clear hN hbW h;go_enter Tryz.func50,Tryz.ntmps50;go_wp2_with fail
  refine zt (fun w'=>ScAt w' b c) (fun _=>True) [26] (by kernel_rfl) ⟨HH.out.2.1,trivial⟩ (fun hHeld=>?_);clear hW HSc HBW HN;generalize W.drew=U at HH hHeld ⊢
  refine tB (i:=0) (oi:=⟨some 5,.move (.tmp 0),_,_,_,_⟩) (v:=?v_aa) ?hy_aa (by assumption) ?rest_aa
  case hy_aa=>(intro w hSw;obtain ⟨q0,q1,q2,q3,q4,q5,q6,q7,q8,q9,q10,q11,q12,q13,q14,q15⟩:=ScAt.all hSw;go_simp;try (with_reducible rfl))
  try simp only [Act.put,q1,q2,q3]
  refine tB (i:=1) (oi:=⟨some 6,.nilCheck (.tmp 5),_,_,_,_⟩) (v:=?v_ab) ?hy_ab (by assumption) ?rest_ab
  case hy_ab=>(intro w hSw;obtain ⟨q0,q1,q2,q3,q4,q5,q6,q7,q8,q9,q10,q11,q12,q13,q14,q15⟩:=ScAt.all hSw;go_simp;try (with_reducible rfl))
  try simp only [Act.put,q1,q2,q3]
  refine tB (i:=2) (oi:=⟨some 7,.fieldAddr 85 (.tmp 6) 0,_,_,_,_⟩) (v:=?v_ac) ?hy_ac (by assumption) ?rest_ac
  case hy_ac=>(intro w hSw;obtain ⟨q0,q1,q2,q3,q4,q5,q6,q7,q8,q9,q10,q11,q12,q13,q14,q15⟩:=ScAt.all hSw;go_simp;try (with_reducible rfl))
  try simp only [Act.put,q1,q2,q3]
  refine tB (i:=4) (oi:=⟨some 9,.move (.tmp 1),_,_,_,_⟩) (v:=?v_ad) ?hy_ad (by assumption) ?rest_ad
  case hy_ad=>(intro w hSw;obtain ⟨q0,q1,q2,q3,q4,q5,q6,q7,q8,q9,q10,q11,q12,q13,q14,q15⟩:=ScAt.all hSw;go_simp;try (with_reducible rfl))
  try simp only [Act.put,q1,q2,q3]
  refine tB (i:=5) (oi:=⟨some 10,.move (.tmp 0),_,_,_,_⟩) (v:=?v_ae) ?hy_ae (by assumption) ?rest_ae
  case hy_ae=>(intro w hSw;obtain ⟨q0,q1,q2,q3,q4,q5,q6,q7,q8,q9,q10,q11,q12,q13,q14,q15⟩:=ScAt.all hSw;go_simp;try (with_reducible rfl))
  try simp only [Act.put,q1,q2,q3]
  refine tB (i:=6) (oi:=⟨some 11,.nilCheck (.tmp 10),_,_,_,_⟩) (v:=?v_af) ?hy_af (by assumption) ?rest_af
  case hy_af=>(intro w hSw;obtain ⟨q0,q1,q2,q3,q4,q5,q6,q7,q8,q9,q10,q11,q12,q13,q14,q15⟩:=ScAt.all hSw;go_simp;try (with_reducible rfl))
  try simp only [Act.put,q1,q2,q3]
  refine tB (i:=7) (oi:=⟨some 12,.fieldAddr 85 (.tmp 11) 0,_,_,_,_⟩) (v:=?v_ag) ?hy_ag (by assumption) ?rest_ag
  case hy_ag=>(intro w hSw;obtain ⟨q0,q1,q2,q3,q4,q5,q6,q7,q8,q9,q10,q11,q12,q13,q14,q15⟩:=ScAt.all hSw;go_simp;try (with_reducible rfl))
  try simp only [Act.put,q1,q2,q3]
  refine tB (i:=9) (oi:=⟨some 14,.move (.tmp 0),_,_,_,_⟩) (v:=?v_ah) ?hy_ah (by assumption) ?rest_ah
  case hy_ah=>(intro w hSw;obtain ⟨q0,q1,q2,q3,q4,q5,q6,q7,q8,q9,q10,q11,q12,q13,q14,q15⟩:=ScAt.all hSw;go_simp;try (with_reducible rfl))
  try simp only [Act.put,q1,q2,q3]
  refine tB (i:=10) (oi:=⟨some 15,.nilCheck (.tmp 14),_,_,_,_⟩) (v:=?v_ai) ?hy_ai (by assumption) ?rest_ai
  case hy_ai=>(intro w hSw;obtain ⟨q0,q1,q2,q3,q4,q5,q6,q7,q8,q9,q10,q11,q12,q13,q14,q15⟩:=ScAt.all hSw;go_simp;try (with_reducible rfl))
  try simp only [Act.put,q1,q2,q3]
  refine tB (i:=11) (oi:=⟨some 16,.fieldAddr 85 (.tmp 15) 1,_,_,_,_⟩) (v:=?v_aj) ?hy_aj (by assumption) ?rest_aj
  case hy_aj=>(intro w hSw;obtain ⟨q0,q1,q2,q3,q4,q5,q6,q7,q8,q9,q10,q11,q12,q13,q14,q15⟩:=ScAt.all hSw;go_simp;try (with_reducible rfl))
  try simp only [Act.put,q1,q2,q3]
  refine tB (i:=12) (oi:=⟨some 17,.load 3 (.tmp 16),_,_,_,_⟩) (v:=?v_ak) ?hy_ak (by assumption) ?rest_ak
  case hy_ak=>(intro w hSw;obtain ⟨q0,q1,q2,q3,q4,q5,q6,q7,q8,q9,q10,q11,q12,q13,q14,q15⟩:=ScAt.all hSw;go_simp;try (with_reducible rfl))
  try simp only [Act.put,q1,q2,q3]
  refine tB (i:=13) (oi:=⟨some 18,.move (.tmp 0),_,_,_,_⟩) (v:=?v_al) ?hy_al (by assumption) ?rest_al
  case hy_al=>(intro w hSw;obtain ⟨q0,q1,q2,q3,q4,q5,q6,q7,q8,q9,q10,q11,q12,q13,q14,q15⟩:=ScAt.all hSw;go_simp;try (with_reducible rfl))
  try simp only [Act.put,q1,q2,q3]
  refine tB (i:=14) (oi:=⟨some 19,.nilCheck (.tmp 18),_,_,_,_⟩) (v:=?v_am) ?hy_am (by assumption) ?rest_am
  case hy_am=>(intro w hSw;obtain ⟨q0,q1,q2,q3,q4,q5,q6,q7,q8,q9,q10,q11,q12,q13,q14,q15⟩:=ScAt.all hSw;go_simp;try (with_reducible rfl))
  try simp only [Act.put,q1,q2,q3]
  refine tB (i:=15) (oi:=⟨some 20,.fieldAddr 85 (.tmp 19) 2,_,_,_,_⟩) (v:=?v_an) ?hy_an (by assumption) ?rest_an
  case hy_an=>(intro w hSw;obtain ⟨q0,q1,q2,q3,q4,q5,q6,q7,q8,q9,q10,q11,q12,q13,q14,q15⟩:=ScAt.all hSw;go_simp;try (with_reducible rfl))
  try simp only [Act.put,q1,q2,q3]
  refine tB (i:=16) (oi:=⟨some 21,.load 3 (.tmp 20),_,_,_,_⟩) (v:=?v_ao) ?hy_ao (by assumption) ?rest_ao
  case hy_ao=>(intro w hSw;obtain ⟨q0,q1,q2,q3,q4,q5,q6,q7,q8,q9,q10,q11,q12,q13,q14,q15⟩:=ScAt.all hSw;go_simp;try (with_reducible rfl))
  try simp only [Act.put,q1,q2,q3]
  refine tB (i:=17) (oi:=⟨some 22,.move (.tmp 0),_,_,_,_⟩) (v:=?v_ap) ?hy_ap (by assumption) ?rest_ap
  case hy_ap=>(intro w hSw;obtain ⟨q0,q1,q2,q3,q4,q5,q6,q7,q8,q9,q10,q11,q12,q13,q14,q15⟩:=ScAt.all hSw;go_simp;try (with_reducible rfl))
  try simp only [Act.put,q1,q2,q3]
  refine tB (i:=18) (oi:=⟨some 23,.nilCheck (.tmp 22),_,_,_,_⟩) (v:=?v_aq) ?hy_aq (by assumption) ?rest_aq
  case hy_aq=>(intro w hSw;obtain ⟨q0,q1,q2,q3,q4,q5,q6,q7,q8,q9,q10,q11,q12,q13,q14,q15⟩:=ScAt.all hSw;go_simp;try (with_reducible rfl))
  try simp only [Act.put,q1,q2,q3]
  refine tB (i:=19) (oi:=⟨some 24,.fieldAddr 85 (.tmp 23) 3,_,_,_,_⟩) (v:=?v_ar) ?hy_ar (by assumption) ?rest_ar
  case hy_ar=>(intro w hSw;obtain ⟨q0,q1,q2,q3,q4,q5,q6,q7,q8,q9,q10,q11,q12,q13,q14,q15⟩:=ScAt.all hSw;go_simp;try (with_reducible rfl))
  try simp only [Act.put,q1,q2,q3]
  refine tB (i:=20) (oi:=⟨some 25,.load 3 (.tmp 24),_,_,_,_⟩) (v:=?v_as) ?hy_as (by assumption) ?rest_as
  case hy_as=>(intro w hSw;obtain ⟨q0,q1,q2,q3,q4,q5,q6,q7,q8,q9,q10,q11,q12,q13,q14,q15⟩:=ScAt.all hSw;go_simp;try (with_reducible rfl))
  try simp only [Act.put,q1,q2,q3]
  refine tB (i:=21) (oi:=⟨some 26,.move (.tmp 0),_,_,_,_⟩) (v:=?v_at) ?hy_at (by assumption) ?rest_at
  case hy_at=>(intro w hSw;obtain ⟨q0,q1,q2,q3,q4,q5,q6,q7,q8,q9,q10,q11,q12,q13,q14,q15⟩:=ScAt.all hSw;go_simp;try (with_reducible rfl))
  try simp only [Act.put,q1,q2,q3]
  refine tB (i:=22) (oi:=⟨some 27,.nilCheck (.tmp 26),_,_,_,_⟩) (v:=?v_au) ?hy_au (by assumption) ?rest_au
  case hy_au=>(intro w hSw;obtain ⟨q0,q1,q2,q3,q4,q5,q6,q7,q8,q9,q10,q11,q12,q13,q14,q15⟩:=ScAt.all hSw;go_simp;try (with_reducible rfl))
  try simp only [Act.put,q1,q2,q3]
  refine tB (i:=23) (oi:=⟨some 28,.fieldAddr 85 (.tmp 27) 0,_,_,_,_⟩) (v:=?v_av) ?hy_av (by assumption) ?rest_av
  case hy_av=>(intro w hSw;obtain ⟨q0,q1,q2,q3,q4,q5,q6,q7,q8,q9,q10,q11,q12,q13,q14,q15⟩:=ScAt.all hSw;go_simp;try (with_reducible rfl))
  try simp only [Act.put,q1,q2,q3]
  refine tB (i:=24) (oi:=⟨some 29,.load 83 (.tmp 28),_,_,_,_⟩) (v:=?v_aw) ?hy_aw (by assumption) ?rest_aw
  case hy_aw=>(intro w hSw;obtain ⟨q0,q1,q2,q3,q4,q5,q6,q7,q8,q9,q10,q11,q12,q13,q14,q15⟩:=ScAt.all hSw;go_simp;try (with_reducible rfl))
  try simp only [Act.put,q1,q2,q3]
  refine yF (i:=3) (o:=⟨some 8,.call { callee:=.value (.func 67),args:=#[(.tmp 7)],argTypes:=#[83] },_,_,_,_⟩) (by kernel_rfl) rfl (fun K hK=>?_);go_simp;refine cA (HSt.out U HH.out.2.1) ?_;rintro e w1 ⟨rfl,hb1⟩;have H1:Hid (Below w.heap.size w w1/\ScAt w1 b c/\w1.heap[w.heap.size]?=some (.cells #[.int .i64 0,.int .i64 0,.int .i64 0,.int .i64 0,.int .i64 0,.int .i64 0,.int .i64 0,.int .i64 0,.int .i64 0,.int .i64 0,.int .i64 0,.int .i64 0,.int .i64 0,.int .i64 0,.int .i64 0,.int .i64 0,.int .i64 0,.int .i64 0,.int .i64 0] 55 (0,0))):=⟨ym HH.out.1 hb1,HH.out.2.1.below hb1,(hb1.block _ (hLt HH.out.2.2)).trans HH.out.2.2⟩;clear hb1;go_wp2_with fail
  refine hK.out _ _ ⟨H1.out.2.1,fun _=>trivial⟩ ?_;clear hK K;try simp only [Act.put,q1,q2,q3]
  refine yF (i:=8) (o:=⟨some 13,.call { callee:=.value (.func 66),args:=#[(.tmp 12)],argTypes:=#[83] },_,_,_,_⟩) (by kernel_rfl) rfl (fun K hK=>?_);go_simp;refine cA (HRw.out w1 H1.out.2.1) ?_;rintro e w2 ⟨rfl,hb2⟩;have H2:Hid (Below w.heap.size w w2/\ScAt w2 b c/\w2.heap[w.heap.size]?=some (.cells #[.int .i64 0,.int .i64 0,.int .i64 0,.int .i64 0,.int .i64 0,.int .i64 0,.int .i64 0,.int .i64 0,.int .i64 0,.int .i64 0,.int .i64 0,.int .i64 0,.int .i64 0,.int .i64 0,.int .i64 0,.int .i64 0,.int .i64 0,.int .i64 0,.int .i64 0] 55 (0,0))):=⟨ym H1.out.1 hb2,H1.out.2.1.below hb2,(hb2.block _ (hLt H1.out.2.2)).trans H1.out.2.2⟩;clear hb2;go_wp2_with fail
  refine hK.out _ _ ⟨H2.out.2.1,fun _=>trivial⟩ ?_;have hHeld:ScAt w2 b c/\True:=⟨H2.out.2.1,trivial⟩;clear hK K;try simp only [Act.put,q1,q2,q3]
  refine tB (i:=25) (oi:=⟨some 30,.build 55 #[(0,(.tmp 8)),(1,(.tmp 9)),(2,(.tmp 13)),(3,(.tmp 17)),(4,(.tmp 21)),(5,(.tmp 25)),(6,(.tmp 29))],_,_,_,_⟩) (v:=?v_ax) ?hy_ax (by assumption) ?rest_ax
  case hy_ax=>(intro w hSw;obtain ⟨q0,q1,q2,q3,q4,q5,q6,q7,q8,q9,q10,q11,q12,q13,q14,q15⟩:=ScAt.all hSw;go_simp;try (with_reducible rfl))
  try simp only [Act.put,q1,q2,q3]
  refine yX (i:=26) (o:=⟨none,.store 55 (.tmp 4) (.tmp 30),_,_,_,_⟩) (by kernel_rfl) rfl (by kernel_rfl) (fun K hK=>?_);rw [if_pos (by rfl)];refine wp_store_row 55 (.tmp 4) (.tmp 30) rfl w.heap.size (wtC c (sumW c 13) y (wrap64 (wrap64 (c 3+c 4)+c 11))) (by rfl) (by rfl) 55 _ H2.out.2.2 infW rfl (by simp [wtC,Value.oneCell']) ?_;refine hK.out _ _ ((setRow_other w2 w.heap.size b _ hne).trans H2.out.2.1) ?_;clear hK K;refine zu (by kernel_rfl) ?_ _;have hB3:Below w.heap.size w (w2.setRow w.heap.size (wtC c (sumW c 13) y (wrap64 (wrap64 (c 3+c 4)+c 11)))):=H2.out.1.trans ⟨rfl,rfl,rfl,by simp [World.setRow],fun k hk=>setRow_other w2 _ k _ (by omega)⟩;have hg3:=setRow_heap w2 w.heap.size _ (wtC c (sumW c 13) y (wrap64 (wrap64 (c 3+c 4)+c 11))) _ _ H2.out.2.2;go_wp2_with fail
  refine bodyPost_ret (v:=.agg (wtC c (sumW c 13) y (wrap64 (wrap64 (c 3+c 4)+c 11)))) (results_cell_row Tryz.results50 _ _ w.heap.size 55 (wtC c (sumW c 13) y (wrap64 (wrap64 (c 3+c 4)+c 11))) (0,0) _ rfl hg3 Tryz.underlying55 rfl infW) rfl ⟨rfl,hB3⟩
end Go.Proofs.YtjgghimjnbjlbaaGreatDoor
