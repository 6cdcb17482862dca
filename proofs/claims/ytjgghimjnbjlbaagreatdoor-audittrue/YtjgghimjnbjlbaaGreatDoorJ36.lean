/-
  Put together: PfOp, PfTurn, PfOps, PfPol, PfRd.
-/
import Derived.Test.YtjgghimjnbjlbaaGreatDoorJ04
import Derived.Test.YtjgghimjnbjlbaaGreatDoorPfList
import Derived.Laws.OwnMore
namespace Go.Proofs.YtjgghimjnbjlbaaGreatDoor
open Go.RowKit
set_option maxRecDepth 10000
set_option maxHeartbeats 8000000
theorem zw (s:Ls):(ye s).1.length<=s.1.length:=by
  unfold ye
  split
  · rename_i h;exact (xX h).2
  · simp
theorem xB (x l:List UInt8):((yd x).toList==l)=decide (x=l):=by
  have:=ZO x l
  rwa [show (yd l).toList=l by rw [Lib.toList_data,yS]] at this
def xL (x:List UInt8) (s:Ls):Ls:=if x=[58] then s else yu 80 s
theorem KX (x:List UInt8) (s:Ls):(xL x s).1=s.1:=by unfold xL;split <;> first | rfl | exact xZ _ _
def zf (x:List UInt8) (s:Ls):List UInt8 × Ls:=((ye (xL x s)).1,yr (ye (xL x s)).1 1 (ye (xL x s)).2)
theorem ZR {B b:Nat} {s:Ls} (x:List UInt8) (w:World) (h:LnAt w b s) (hB:B<=b):Calls Tryz.prog 239 #[.pointer (some ⟨b,0,none⟩),.string (yd x)] w (LOr B b 9 [.string (yd (zf x s).1)] (zf x s).2 w):=by
  have hBw:B<=w.heap.size:=Nat.le_of_lt (Nat.lt_of_le_of_lt hB h.lt);have hn:=h.n;have HF:Hid (Calls Tryz.prog 131 #[.pointer (some ⟨b,0,none⟩),.int .i64 80] w (LO B b (.tuple #[]) (yu 80 s) w)):=xz 80 w h hB;have HL:Hid (LnAt w b s):=h;unfold zf;obtain ⟨s1,hs1⟩:∃ s1,xL x s=s1:=⟨_,rfl⟩;rw [hs1];obtain ⟨y,hy⟩:∃ y,(ye s1).1=y:=⟨_,rfl⟩;have hyl:y.length<=9000000:=by rw [<-hy];refine Nat.le_trans (zw s1) ?_;rw [<-hs1,KX];exact hn
  rw [hy];have HN:Hid (∀ w',LnAt w' b s1->Calls Tryz.prog 127 #[.pointer (some ⟨b,0,none⟩)] w' (LO B b (.string (yd y)) (ye s1).2 w')):=fun w' h'=>by rw [<-hy];exact zQ w' h' hB
  have HI:Hid (∀ w' s',LnAt w' b s'->Calls Tryz.prog 189 #[.pointer (some ⟨b,0,none⟩),.string (yd y)] w' (LO B b (.string (yd y)) (yr y 1 s') w')):=fun w' s' h'=>Yo y w' h' hB hyl
  have HE:Hid (∀ w3 s3,LnAt w3 b s3->SStp B (fun k=>k=b) w w3->LnAt (w3.alloc (.cells #[.string (yd y)] 9)) b s3/\SStp B (fun k=>k=b) w (w3.alloc (.cells #[.string (yd y)] 9))/\(w3.alloc (.cells #[.string (yd y)] 9)).ownsRow w.heap.size 9 1 (.slice (some ⟨w3.heap.size,0,none⟩) 1 1) 1 [.string (yd y)]):=fun w3 s3 a1 a2=>by
    have hb:Below w3.heap.size w3 (w3.alloc (.cells #[.string (yd y)] 9)):=(Below.refl _ _).alloc (Nat.le_refl _) _;refine ⟨a1.below hb,a2.next hb (Nat.le_trans hBw a2.off.size),⟨rfl,.inr ⟨w3.heap.size,1,_,rfl,a2.off.size,heap_alloc_new w3 _,by omega,by decide,rfl,rfl⟩⟩⟩
  have hq:=xB x [58];clear hy h
  by_cases hx:x=[58]
  · have HS1:Hid (LnAt w b s1):=by show LnAt w b s1;rw [<-hs1];unfold xL;rw [if_pos hx];exact HL.out
    rw [decide_eq_true hx] at hq;clear hx hs1 HL;go_enter Tryz.func239,Tryz.ntmps239;go_wp2_with fail
    refine cA (HN.out w HS1.out) ?_;rintro e w2 ⟨rfl,h3,h4⟩;have H2:Hid (LnAt w2 b (ye s1).2/\SStp B (fun k=>k=b) w w2):=⟨h3,h4⟩;clear h3 h4;go_wp2_with fail
    refine cA (HI.out w2 _ H2.out.1) ?_;rintro e w3 ⟨rfl,h5,h6⟩;have H3:Hid (LnAt w3 b (yr y 1 (ye s1).2)/\SStp B (fun k=>k=b) w w3):=⟨h5,H2.out.2.trans h6⟩;clear h5 h6;go_wp2_with fail
    go_ret;obtain ⟨q1,q2,q3⟩:=HE.out w3 _ H3.out.1 H3.out.2;exact ⟨_,rfl,q3,q1,q2⟩
  · have HS1:Hid (yu 80 s=s1):=by show yu 80 s=s1;rw [<-hs1];unfold xL;rw [if_neg hx]
    rw [decide_eq_false hx] at hq;clear hx hs1;go_enter Tryz.func239,Tryz.ntmps239;go_wp2_with fail
    refine cA HF.out ?_;rintro e w1 ⟨rfl,h1,h2⟩;have H1:Hid (LnAt w1 b s1/\SStp B (fun k=>k=b) w w1):=⟨HS1.out▸h1,h2⟩;clear h1 h2;go_wp2_with fail
    refine cA (HN.out w1 H1.out.1) ?_;rintro e w2 ⟨rfl,h3,h4⟩;have H2:Hid (LnAt w2 b (ye s1).2/\SStp B (fun k=>k=b) w w2):=⟨h3,H1.out.2.trans h4⟩;clear h3 h4;go_wp2_with fail
    refine cA (HI.out w2 _ H2.out.1) ?_;rintro e w3 ⟨rfl,h5,h6⟩;have H3:Hid (LnAt w3 b (yr y 1 (ye s1).2)/\SStp B (fun k=>k=b) w w3):=⟨h5,H2.out.2.trans h6⟩;clear h5 h6;go_wp2_with fail
    go_ret;obtain ⟨q1,q2,q3⟩:=HE.out w3 _ H3.out.1 H3.out.2;exact ⟨_,rfl,q3,q1,q2⟩
abbrev OpL:=Int × List UInt8 × Int
def opC (o:OpL):List Value:=[.int .i64 o.1,.string (yd o.2.1),.int .i64 o.2.2]
def opsC (L:List OpL):List Value:=L.flatMap opC
def xM (x:List UInt8) (s:Ls):Ls:=if (yR x).isNone=true then yu 80 s else s
def zH (x:List UInt8) (s:Ls):OpL × Ls:=if (litP x).2=true then ((2,[],(litP x).1),s) else ((1,x,0),yr x 1 (xM x s))
theorem put3 {w:World} {g:Nat} {a b c x y z:Value} {t:TypeId} (h:w.heap[g]?=some (.cells #[a,b,c] t (0,0))):(((w.setCell ⟨g,0,none⟩ x).setCell ⟨g,1,none⟩ y).setCell ⟨g,2,none⟩ z).heap[g]?=some (.cells #[x,y,z] t (0,0)):=by
  have h1:=yB h 0 x;have h2:=yB h1 1 y;have h3:=yB h2 2 z;exact h3
theorem y5D {B b:Nat} {s:Ls} (x:List UInt8) (w:World) (h:LnAt w b s) (hB:B<=b) (hx:x.length<=9000000):Calls Tryz.prog 214 #[.pointer (some ⟨b,0,none⟩),.string (yd x)] w (LO B b (.agg (opC (zH x s).1).toArray) (zH x s).2 w):=by
  have hBw:B<=w.heap.size:=Nat.le_of_lt (Nat.lt_of_le_of_lt hB h.lt);have hbl:=h.lt;have HL:Hid (LnAt w b s):=h;have HI:Hid (∀ w',Calls Tryz.prog 216 #[.string (yd x)] w' fun e w2=>e=.returned (.tuple #[.int .i64 (litP x).1,.bool (litP x).2])/\Below w'.heap.size w' w2):=fun w'=>KW x w' hx
  unfold zH;obtain ⟨z,hz⟩:∃ z,(litP x).1=z:=⟨_,rfl⟩;rw [hz] at HI ⊢;clear hz;obtain ⟨X,hX⟩:∃ X,w.alloc (.cells #[.int .i64 0,.string ⟨#[]⟩,.int .i64 0] 220)=X:=⟨_,rfl⟩;have HBX:Hid (Below w.heap.size w X):=by show Below _ _ _;rw [<-hX];exact (Below.refl _ _).alloc (Nat.le_refl _) _
  have HGX:Hid (X.heap[w.heap.size]?=some (.cells #[.int .i64 0,.string ⟨#[]⟩,.int .i64 0] 220 (0,0))):=by show _=_;rw [<-hX];exact heap_alloc_new w _
  have HXs:Hid (w.heap.size<X.heap.size):=by show _<_;rw [<-hX];simp
  have HE:Hid (∀ (w3:World) (s3:Ls) (u0 u1 u2:Value),LnAt w3 b s3->SStp B (fun k=>k=b) w w3->LnAt (((w3.setCell ⟨w.heap.size,0,none⟩ u0).setCell ⟨w.heap.size,1,none⟩ u1).setCell ⟨w.heap.size,2,none⟩ u2) b s3/\SStp B (fun k=>k=b) w (((w3.setCell ⟨w.heap.size,0,none⟩ u0).setCell ⟨w.heap.size,1,none⟩ u1).setCell ⟨w.heap.size,2,none⟩ u2)):=fun w3 s3 u0 u1 u2 a1 a2=>by
    have ho:∀ k,k<w.heap.size->(((w3.setCell ⟨w.heap.size,0,none⟩ u0).setCell ⟨w.heap.size,1,none⟩ u1).setCell ⟨w.heap.size,2,none⟩ u2).heap[k]?=w3.heap[k]?:=fun k hk=>by
      have hk':k≠w.heap.size:=by omega
      rw [heap_setCell_other _ ⟨w.heap.size,2,none⟩ k u2 hk',heap_setCell_other _ ⟨w.heap.size,1,none⟩ k u1 hk',heap_setCell_other _ ⟨w.heap.size,0,none⟩ k u0 hk']
    refine ⟨⟨(ho b hbl).trans a1.o,a1.n⟩,((a2.below.setCell hBw _).setCell hBw _).setCell hBw _,⟨Nat.le_trans a2.off.size (by simp),fun k hk hs=>(ho k hk).trans (a2.off.block k hk hs)⟩⟩
  cases hk:(litP x).2 with
  | true =>
    rw [hk] at HI;simp only [if_true];clear h hk;go_enter Tryz.func214,Tryz.ntmps214;go_wp2_with fail
    refine cA (HI.out X) ?_;rintro e w1 ⟨rfl,hb1⟩;have g1:=(hb1.block _ HXs.out).trans HGX.out;have c0:w1.cell? ⟨w.heap.size,0,none⟩=some (.int .i64 0):=yb g1 0;have c1:w1.cell? ⟨w.heap.size,1,none⟩=some (.string ⟨#[]⟩):=yb g1 1;have c2:w1.cell? ⟨w.heap.size,2,none⟩=some (.int .i64 0):=yb g1 2;have z0:=yl g1;have HG1:Hid (w1.heap[w.heap.size]?=some (.cells #[.int .i64 0,.string ⟨#[]⟩,.int .i64 0] 220 (0,0))):=g1;have HB1:Hid (Below w.heap.size w w1):=ym HBX.out hb1;clear hb1 g1;go_wp2_with fail
    have hE:=HE.out w1 s (.int .i64 2) (.string ⟨#[]⟩) (.int .i64 z) (HL.out.below HB1.out) (SStp.of_below HB1.out hBw);have hp:=put3 (x:=.int .i64 2) (y:=.string ⟨#[]⟩) (z:=.int .i64 z) HG1.out;have m0:=yb hp 0;have m1:=yb hp 1;have m2:=yb hp 2;exact bodyPost_ret (v:=.agg #[.int .i64 2,.string ⟨#[]⟩,.int .i64 z]) (by simp [results,Tryz.results214,go_sem,m0,m1,m2]) rfl ⟨rfl,hE.1,hE.2⟩
  | false =>
    rw [hk] at HI;simp only [Bool.false_eq_true,if_false];obtain ⟨o,ho⟩:∃ o,yR x=o:=⟨_,rfl⟩;have HP:Hid (∀ w',Calls Tryz.prog 233 #[.string (yd x)] w' fun e w2=>∃ v,e=.returned (.tuple #[v,.int .i64 (xu o)])/\BigAt w2 v (o.getD 0)/\Below w'.heap.size w' w2):=fun w'=>by
      have:=ZF (yd x) w' (by rw [zA];exact hx);rw [yS,ho] at this;exact this
    have HF:Hid (∀ w',LnAt w' b s->Calls Tryz.prog 131 #[.pointer (some ⟨b,0,none⟩),.int .i64 80] w' (LO B b (.tuple #[]) (yu 80 s) w')):=fun w' h'=>xz 80 w' h' hB
    have HD:Hid (∀ w' s',LnAt w' b s'->Calls Tryz.prog 189 #[.pointer (some ⟨b,0,none⟩),.string (yd x)] w' (LO B b (.string (yd x)) (yr x 1 s') w')):=fun w' s' h'=>Yo x w' h' hB hx
    have HO:Hid (xM x s=if o.isNone=true then yu 80 s else s):=by show _=_;unfold xM;rw [ho]
    clear h hk ho;go_enter Tryz.func214,Tryz.ntmps214;go_wp2_with fail
    refine cA (HI.out X) ?_;rintro e w1 ⟨rfl,hb1⟩;have HG1:Hid (w1.heap[w.heap.size]?=some (.cells #[.int .i64 0,.string ⟨#[]⟩,.int .i64 0] 220 (0,0))):=(hb1.block _ HXs.out).trans HGX.out;have HZ1:Hid (w.heap.size<w1.heap.size):=Nat.lt_of_lt_of_le HXs.out hb1.size;have HB1:Hid (Below w.heap.size w w1):=ym HBX.out hb1;clear hb1;go_wp2_with fail
    refine cA (HP.out w1) ?_;rintro e w2 ⟨v,rfl,hv1,hb1⟩;obtain ⟨y,q,hvq⟩:=hv1.shape;subst hvq;obtain ⟨Y,hY⟩:∃ Y,w2.alloc (.cells #[.int .i64 y,.pointer q] 275)=Y:=⟨_,rfl⟩;have hbY:Below w2.heap.size w2 Y:=bAe hY;have HG2:Hid (Y.heap[w.heap.size]?=some (.cells #[.int .i64 0,.string ⟨#[]⟩,.int .i64 0] 220 (0,0))):=((ym hb1 hbY).block _ HZ1.out).trans HG1.out;have HZ2:Hid (w.heap.size<Y.heap.size):=Nat.lt_of_lt_of_le HZ1.out (ym hb1 hbY).size;have HB2:Hid (Below w.heap.size w Y):=ym HB1.out (ym hb1 hbY);clear hv1 hb1 hbY;have hne:w.heap.size≠b:=by omega
    cases o with
    | none =>
      have e0:xu none=10:=rfl;rw [e0];go_wp2_with fail
      refine cA (HF.out Y (HL.out.below HB2.out)) ?_;rintro e w3 ⟨rfl,h3,h4⟩;have H3:Hid (LnAt w3 b (xM x s)/\SStp B (fun k=>k=b) w w3):=⟨by rw [HO.out];exact h3,(SStp.of_below HB2.out hBw).trans h4⟩;have HG3:Hid (w3.heap[w.heap.size]?=some (.cells #[.int .i64 0,.string ⟨#[]⟩,.int .i64 0] 220 (0,0))/\w.heap.size<w3.heap.size):=⟨(h4.off.block _ HZ2.out hne).trans HG2.out,Nat.lt_of_lt_of_le HZ2.out h4.off.size⟩;clear h3 h4;go_wp2_with fail
      refine cA (HD.out w3 _ H3.out.1) ?_;rintro e w4 ⟨rfl,h5,h6⟩;have H4:Hid (LnAt w4 b (yr x 1 (xM x s))/\SStp B (fun k=>k=b) w w4):=⟨h5,H3.out.2.trans h6⟩;have g4:w4.heap[w.heap.size]?=some (.cells #[.int .i64 0,.string ⟨#[]⟩,.int .i64 0] 220 (0,0)):=(h6.off.block _ HG3.out.2 hne).trans HG3.out.1;clear h5 h6;have c0:w4.cell? ⟨w.heap.size,0,none⟩=some (.int .i64 0):=yb g4 0;have c1:w4.cell? ⟨w.heap.size,1,none⟩=some (.string ⟨#[]⟩):=yb g4 1;have c2:w4.cell? ⟨w.heap.size,2,none⟩=some (.int .i64 0):=yb g4 2;have z0:=yl g4;have HG4:Hid (w4.heap[w.heap.size]?=some (.cells #[.int .i64 0,.string ⟨#[]⟩,.int .i64 0] 220 (0,0))):=g4;clear g4;go_wp2_with fail
      have hE:=HE.out w4 _ (.int .i64 1) (.string (yd x)) (.int .i64 0) H4.out.1 H4.out.2;have hp:=put3 (x:=.int .i64 1) (y:=.string (yd x)) (z:=.int .i64 0) HG4.out;have m0:=yb hp 0;have m1:=yb hp 1;have m2:=yb hp 2;exact bodyPost_ret (v:=.agg #[.int .i64 1,.string (yd x),.int .i64 0]) (by simp [results,Tryz.results214,go_sem,m0,m1,m2]) rfl ⟨rfl,hE.1,hE.2⟩
    | some zz =>
      have e0:xu (some zz)=0:=rfl;rw [e0];have H3:Hid (LnAt Y b (xM x s)):=by show LnAt _ _ _;rw [HO.out];exact HL.out.below HB2.out
      go_wp2_with fail
      refine cA (HD.out Y _ H3.out) ?_;rintro e w4 ⟨rfl,h5,h6⟩;have H4:Hid (LnAt w4 b (yr x 1 (xM x s))/\SStp B (fun k=>k=b) w w4):=⟨h5,(SStp.of_below HB2.out hBw).trans h6⟩;have g4:w4.heap[w.heap.size]?=some (.cells #[.int .i64 0,.string ⟨#[]⟩,.int .i64 0] 220 (0,0)):=(h6.off.block _ HZ2.out hne).trans HG2.out;clear h5 h6;have c0:w4.cell? ⟨w.heap.size,0,none⟩=some (.int .i64 0):=yb g4 0;have c1:w4.cell? ⟨w.heap.size,1,none⟩=some (.string ⟨#[]⟩):=yb g4 1;have c2:w4.cell? ⟨w.heap.size,2,none⟩=some (.int .i64 0):=yb g4 2;have z0:=yl g4;have HG4:Hid (w4.heap[w.heap.size]?=some (.cells #[.int .i64 0,.string ⟨#[]⟩,.int .i64 0] 220 (0,0))):=g4;clear g4;go_wp2_with fail
      have hE:=HE.out w4 _ (.int .i64 1) (.string (yd x)) (.int .i64 0) H4.out.1 H4.out.2;have hp:=put3 (x:=.int .i64 1) (y:=.string (yd x)) (z:=.int .i64 0) HG4.out;have m0:=yb hp 0;have m1:=yb hp 1;have m2:=yb hp 2;exact bodyPost_ret (v:=.agg #[.int .i64 1,.string (yd x),.int .i64 0]) (by simp [results,Tryz.results214,go_sem,m0,m1,m2]) rfl ⟨rfl,hE.1,hE.2⟩
end Go.Proofs.YtjgghimjnbjlbaaGreatDoor

namespace Go.Proofs.YtjgghimjnbjlbaaGreatDoor
open Go.RowKit
set_option maxRecDepth 10000
set_option maxHeartbeats 8000000
theorem Z7 (L:List OpL):(opsC L).length=L.length * 3:=by
  induction L with
  | nil=>rfl
  | cons o L ih=>rw [opsC,List.flatMap_cons,List.length_append];rw [opsC] at ih;rw [ih,List.length_cons];simp [opC];omega
theorem YZ (L M:List OpL):opsC (L++M)=opsC L++opsC M:=by unfold opsC;rw [List.flatMap_append]
def OO (B b C:Nat) (L:List OpL) (s':Ls) (w:World) (e:Ending) (w':World):Prop:=∃ v,e=.returned v/\w'.ownsRow C 220 3 v L.length (opsC L)/\LnAt w' b s'/\SStp B (fun k=>k=b∨C<=k) w w'
def zk (fr tk:Int) (L:List OpL) (s:Ls):List OpL × Ls:=match L.reverse with
  | []=>([],yu 80 s)
  | o :: M=>if o.1=fr/\¬ o.2.2<0 then (M.reverse++[(tk,o.2)],s) else ([],yu 80 s)
theorem y6E (fr tk:Int) (s:Ls):zk fr tk [] s=([],yu 80 s):=rfl
theorem y01 (fr tk:Int) (M:List OpL) (o:OpL) (s:Ls):zk fr tk (M++[o]) s=if o.1=fr/\¬ o.2.2<0 then (M++[(tk,o.2)],s) else ([],yu 80 s):=by
  unfold zk;simp
theorem SStp.more {B:Nat} {S T:Nat->Prop} {w w':World} (h:SStp B S w w') (hs:∀ k,S k->T k):SStp B T w w':=⟨h.below,h.off.less hs⟩
theorem y0b (M:List OpL) (o:OpL) (i:Nat) (hi:i<3):(opsC (M++[o]))[M.length * 3+i]?=(opC o)[i]?:=by
  rw [YZ,List.getElem?_append_right (by rw [Z7];omega),Z7];simp [opsC]
theorem y6F (M:List OpL) (o:OpL) (tk:Int):(opsC (M++[o])).set (M.length * 3+0) (.int .i64 tk)=opsC (M++[(tk,o.2)]):=by
  rw [YZ,YZ,List.set_append_right _ _ (by rw [Z7];omega),Z7];simp [opsC,opC]
theorem y5F {B b C:Nat} {s:Ls} {L:List OpL} {v:Value} (fr tk:Int) (w:World) (h:LnAt w b s) (hB:B<=b) (hC:b<C) (ho:w.ownsRow C 220 3 v L.length (opsC L)) (hL:L.length<=9000000):Calls Tryz.prog 213 #[.pointer (some ⟨b,0,none⟩),v,.int .i64 fr,.int .i64 tk] w (OO B b C (zk fr tk L s).1 (zk fr tk L s).2 w):=by
  have HF:Hid (Calls Tryz.prog 131 #[.pointer (some ⟨b,0,none⟩),.int .i64 80] w (LO B b (.tuple #[]) (yu 80 s) w)):=xz 80 w h hB;have HL:Hid (LnAt w b s):=h;have HFE:Hid (∀ w',LO B b (.tuple #[]) (yu 80 s) w (.returned (.tuple #[])) w'->OO B b C [] (yu 80 s) w (.returned (.slice none 0 0)) w'):=fun w' a=>⟨_,rfl,World.ownsRow_nil _ _ _ _,a.2.1,a.2.2.more fun k hk=>.inl hk⟩
  rcases List.eq_nil_or_concat L with rfl | ⟨M,o,hLM⟩
  · rw [y6E]
    obtain ⟨a,c,rfl⟩:=yv ho;clear h ho;go_enter Tryz.func213,Tryz.ntmps213;go_wp2_with fail
    refine cA HF.out ?_;rintro e w1 ⟨rfl,h1,h2⟩;have H1:Hid (OO B b C [] (yu 80 s) w (.returned (.slice none 0 0)) w1):=HFE.out w1 ⟨rfl,h1,h2⟩;clear h1 h2;go_wp2_with fail
    go_ret;exact H1.out
  · rw [List.concat_eq_append] at hLM
    subst hLM;rw [y01];rw [List.length_append] at ho hL;have hg:∃ g cap,v=.slice (some ⟨g,0,none⟩) (M.length+1) cap/\C<=g:=by
      rcases ho.2 with ⟨_,h2⟩ | ⟨g,cap,_,hv,hg,_⟩
      · simp at h2
      · exact ⟨g,cap,hv,hg⟩
    obtain ⟨g,cap,rfl,hCg⟩:=hg;have hlen:([o]:List OpL).length=1:=rfl;rw [hlen] at ho hL;have c0:=ho.cellAt (M.length * 3+0) (by omega);have c2:=ho.cellAt (M.length * 3+2) (by omega);have z0:=ho.frozenAt (M.length * 3+0);rw [y0b M o 0 (by omega)] at c0;rw [y0b M o 2 (by omega)] at c2;simp only [opC,List.getElem?_cons_zero,List.getElem?_cons_succ] at c0 c2;have hst:=ho.stored (M.length * 3+0) (.int .i64 tk);rw [y6F] at hst;have HE:Hid (OO B b C (M++[(tk,o.2)]) s w (.returned (.slice (some ⟨g,0,none⟩) (M.length+1) cap)) (w.setCell ⟨g,M.length * 3+0,none⟩ (.int .i64 tk))):=by
      refine ⟨_,rfl,by rw [List.length_append];exact hst.1,⟨(heap_setCell_other _ _ _ _ (by show b≠g;omega)).trans h.o,h.n⟩,(Below.refl _ _).setCell (by show B<=g;omega) _,Off.set _ (.inr hCg)⟩
    have hwr:wrap64 (((M.length:Int)+1)-1)=M.length:=by unfold wrap64;omega
    obtain ⟨k0,n0,l0⟩:=o;simp only at c0 c2 HE ⊢;obtain ⟨P,hP⟩:∃ P,M.length=P:=⟨_,rfl⟩;rw [hP] at c0 c2 z0 HE hwr hL ⊢;rw [Nat.add_zero] at c0 z0 HE;have hP0:¬ (P:Int)<0:=by omega
    clear hst ho h hP hlen;have HN:Hid (¬ (k0=fr/\¬ l0<0)->Calls Tryz.prog 213 #[.pointer (some ⟨b,0,none⟩),.slice (some ⟨g,0,none⟩) (P+1) cap,.int .i64 fr,.int .i64 tk] w (OO B b C [] (yu 80 s) w)):=by
      show _->_;intro hno;have hno2:k0=fr->l0<0:=fun e=>by
        rcases Decidable.em (l0<0) with h | h
        · exact h
        · exact absurd ⟨e,h⟩ hno
      clear hno HE
      by_cases hk:k0=fr
      · have hl:=hno2 hk
        clear hno2;go_enter Tryz.func213,Tryz.ntmps213;go_wp2_with fail
        refine cA HF.out ?_;rintro e w1 ⟨rfl,h1,h2⟩;have H1:Hid (OO B b C [] (yu 80 s) w (.returned (.slice none 0 0)) w1):=HFE.out w1 ⟨rfl,h1,h2⟩;clear h1 h2;go_wp2_with fail
        go_ret;exact H1.out
      · clear hno2
        go_enter Tryz.func213,Tryz.ntmps213;go_wp2_with fail
        refine cA HF.out ?_;rintro e w1 ⟨rfl,h1,h2⟩;have H1:Hid (OO B b C [] (yu 80 s) w (.returned (.slice none 0 0)) w1):=HFE.out w1 ⟨rfl,h1,h2⟩;clear h1 h2;go_wp2_with fail
        go_ret;exact H1.out
    by_cases hk:k0=fr/\¬ l0<0
    · rw [if_pos hk]
      obtain ⟨hk1,hl⟩:=hk;clear HN HF HFE;go_enter Tryz.func213,Tryz.ntmps213;go_wp2_with fail
      go_ret;exact HE.out
    · rw [if_neg hk]
      exact HN.out hk
end Go.Proofs.YtjgghimjnbjlbaaGreatDoor

namespace Go.Proofs.YtjgghimjnbjlbaaGreatDoor
open Go.RowKit
set_option maxRecDepth 10000
set_option maxHeartbeats 8000000
theorem un38:Tryz.prog.underlying 86=some (.slice 220):=by kernel_rfl
theorem ZS:(Tryz.prog.info? 220).map (fun i=>(i.zero,i.size,i.bytes))=some (some (.agg #[.int .i64 0,.string ⟨#[]⟩,.int .i64 0]),3,32):=by kernel_rfl
def opP (x:List UInt8) (L:List OpL) (s:Ls):List OpL × Ls:=if x=[43] then (L++[(3,[],0)],s) else if x=[115] then (L++[(6,[],0)],s) else if x=[42] then zk 1 4 L s else if x=[100] then zk 1 5 L s else if x=[119] then zk 2 7 L s else (L++[(zH x s).1],(zH x s).2)
theorem ZT {B b C:Nat} {s:Ls} {w w2 w3:World} {v v3:Value} {L:List OpL} {o:OpL} (h:LnAt w2 b s) (hs:SStp B (fun k=>k=b∨C<=k) w w2) (ho:w2.ownsRow C 220 3 v L.length (opsC L)) (hB:B<=b) (hC:b<C) (hCw:C<=w2.heap.size) (ho3:w3.ownsRow C 220 3 v3 (L.length+1) (opsC L++opC o)) (hg:(w2.alloc (.cells (opC o).toArray 220)).grownBy w3 v.ownBlock):OO B b C (L++[o]) s w (.returned v3) w3:=by
  have hv:∀ g,v.ownBlock=some g->C<=g:=fun g hg=>(ho.lt g hg).1
  have hk:∀ k,k<w2.heap.size->k<C->w3.heap[k]?=w2.heap[k]?:=fun k h1 h2=>by
    rw [hg.block k (by simp;omega) (fun e=>by have:=hv k e.symm;omega),heap_alloc_old w2 _ h1]
  refine ⟨v3,rfl,?_,⟨(hk b h.lt hC).trans h.o,h.n⟩,hs.below.trans ?_,⟨Nat.le_trans hs.off.size (Nat.le_trans (by simp) hg.size),fun k h1 h2=>?_⟩⟩
  · rw [List.length_append,YZ,show opsC [o]=opC o by simp [opsC]];exact ho3
  · exact ((Below.refl B w2).alloc (by omega) _).grown hg (by simp;omega) (fun k hk=>Nat.le_trans (by omega) (hv k hk))
  · have h3:k<C:=by
      rcases Nat.lt_or_ge k C with h | h
      · exact h
      · exact absurd (.inr h) h2
    exact (hk k (Nat.lt_of_lt_of_le h1 hs.off.size) h3).trans (hs.off.block k h1 h2)
theorem y5E {B b C:Nat} {s:Ls} {L:List OpL} {v:Value} (x:List UInt8) (w:World) (h:LnAt w b s) (hB:B<=b) (hC:b<C) (hCw:C<=w.heap.size) (ho:w.ownsRow C 220 3 v L.length (opsC L)) (hL:L.length<=9000000) (hx:x.length<=9000000):Calls Tryz.prog 185 #[.pointer (some ⟨b,0,none⟩),v,.string (yd x)] w (OO B b C (opP x L s).1 (opP x L s).2 w):=by
  have HL:Hid (LnAt w b s):=h;have HO:Hid (w.ownsRow C 220 3 v L.length (opsC L)):=ho;have HT:Hid (∀ fr tk,Calls Tryz.prog 213 #[.pointer (some ⟨b,0,none⟩),v,.int .i64 fr,.int .i64 tk] w (OO B b C (zk fr tk L s).1 (zk fr tk L s).2 w)):=fun fr tk=>y5F fr tk w h hB hC ho hL
  have HP:Hid (Calls Tryz.prog 214 #[.pointer (some ⟨b,0,none⟩),.string (yd x)] w (LO B b (.agg (opC (zH x s).1).toArray) (zH x s).2 w)):=y5D x w h hB hx;obtain ⟨va,vc,hvs⟩:=yv ho;subst hvs;have q1:=xB x [43];have q2:=xB x [115];have q3:=xB x [42];have q4:=xB x [100];have q5:=xB x [119];unfold opP;clear h ho
  by_cases x1:x=[43]
  · rw [if_pos x1]
    rw [decide_eq_true x1] at q1;clear x1 q2 q3 q4 q5;go_enter Tryz.func185,Tryz.ntmps185
    go_wp2_with (first
      | (at_builtin;refine ZU w (opC (3,[],0)) 3 rfl (by decide) rfl _ _ 86 220 (.agg #[.int .i64 0,.string ⟨#[]⟩,.int .i64 0]) 32 rfl un38 ZS rfl C _ _ _ (by rfl) HO.out (by intro u hu;simp [opC] at hu;rcases hu with rfl | rfl | rfl <;> rfl) _ rfl (by rfl) (by unfold maxLen;omega) (by omega) hCw ?_;intro v3 w3 ho3 hg3 hn3;(have H3:Hid (OO B b C (L++[(3,[],0)]) s w (.returned v3) w3):=ZT HL.out (SStp.refl _ _ _) HO.out hB hC hCw ho3 hg3);clear ho3 hg3 hn3))
    go_ret;exact H3.out
  · rw [if_neg x1]
    rw [decide_eq_false x1] at q1;clear x1
    by_cases x2:x=[115]
    · rw [if_pos x2]
      rw [decide_eq_true x2] at q2;clear x2 q3 q4 q5;go_enter Tryz.func185,Tryz.ntmps185
      go_wp2_with (first
        | (at_builtin;refine ZU w (opC (6,[],0)) 3 rfl (by decide) rfl _ _ 86 220 (.agg #[.int .i64 0,.string ⟨#[]⟩,.int .i64 0]) 32 rfl un38 ZS rfl C _ _ _ (by rfl) HO.out (by intro u hu;simp [opC] at hu;rcases hu with rfl | rfl | rfl <;> rfl) _ rfl (by rfl) (by unfold maxLen;omega) (by omega) hCw ?_;intro v3 w3 ho3 hg3 hn3;(have H3:Hid (OO B b C (L++[(6,[],0)]) s w (.returned v3) w3):=ZT HL.out (SStp.refl _ _ _) HO.out hB hC hCw ho3 hg3);clear ho3 hg3 hn3))
      go_ret;exact H3.out
    · rw [if_neg x2]
      rw [decide_eq_false x2] at q2;clear x2
      by_cases x3:x=[42]
      · rw [if_pos x3]
        rw [decide_eq_true x3] at q3;clear x3 q4 q5;go_enter Tryz.func185,Tryz.ntmps185;go_wp2_with fail
        refine cA (HT.out 1 4) ?_;rintro e w1 ⟨u,rfl,h1⟩;have H1:Hid (OO B b C (zk 1 4 L s).1 (zk 1 4 L s).2 w (.returned u) w1):=⟨u,rfl,h1⟩;clear h1;go_wp2_with fail
        go_ret;exact H1.out
      · rw [if_neg x3]
        rw [decide_eq_false x3] at q3;clear x3
        by_cases x4:x=[100]
        · rw [if_pos x4]
          rw [decide_eq_true x4] at q4;clear x4 q5;go_enter Tryz.func185,Tryz.ntmps185;go_wp2_with fail
          refine cA (HT.out 1 5) ?_;rintro e w1 ⟨u,rfl,h1⟩;have H1:Hid (OO B b C (zk 1 5 L s).1 (zk 1 5 L s).2 w (.returned u) w1):=⟨u,rfl,h1⟩;clear h1;go_wp2_with fail
          go_ret;exact H1.out
        · rw [if_neg x4]
          rw [decide_eq_false x4] at q4;clear x4
          by_cases x5:x=[119]
          · rw [if_pos x5]
            rw [decide_eq_true x5] at q5;clear x5;go_enter Tryz.func185,Tryz.ntmps185;go_wp2_with fail
            refine cA (HT.out 2 7) ?_;rintro e w1 ⟨u,rfl,h1⟩;have H1:Hid (OO B b C (zk 2 7 L s).1 (zk 2 7 L s).2 w (.returned u) w1):=⟨u,rfl,h1⟩;clear h1;go_wp2_with fail
            go_ret;exact H1.out
          · rw [if_neg x5]
            rw [decide_eq_false x5] at q5;clear x5;obtain ⟨o,ho⟩:∃ o,(zH x s).1=o:=⟨_,rfl⟩;rw [ho] at HP ⊢;clear ho HT;obtain ⟨k0,n0,l0⟩:=o;simp only [opC] at HP;go_enter Tryz.func185,Tryz.ntmps185;go_wp2_with fail
            refine cA HP.out ?_;rintro e w1 ⟨rfl,h1,h2⟩;have H1:Hid (LnAt w1 b (zH x s).2/\SStp B (fun k=>k=b∨C<=k) w w1):=⟨h1,h2.more fun k hk=>.inl hk⟩;have HO1:Hid (w1.ownsRow C 220 3 (.slice va L.length vc) L.length (opsC L)):=zD HO.out h2 hC;have hCw1:C<=w1.heap.size:=Nat.le_trans hCw h2.off.size;clear h1 h2
            go_wp2_with (first
              | (at_builtin;refine ZU w1 (opC (k0,n0,l0)) 3 rfl (by decide) rfl _ _ 86 220 (.agg #[.int .i64 0,.string ⟨#[]⟩,.int .i64 0]) 32 rfl un38 ZS rfl C _ _ _ (by rfl) HO1.out (by intro u hu;simp [opC] at hu;rcases hu with rfl | rfl | rfl <;> rfl) _ rfl (by rfl) (by unfold maxLen;omega) (by omega) hCw1 ?_;intro v3 w3 ho3 hg3 hn3;(have H3:Hid (OO B b C (L++[(k0,n0,l0)]) (zH x s).2 w (.returned v3) w3):=ZT H1.out.1 H1.out.2 HO1.out hB hC hCw1 ho3 hg3);clear ho3 hg3 hn3))
            go_ret;exact H3.out
end Go.Proofs.YtjgghimjnbjlbaaGreatDoor

namespace Go.Proofs.YtjgghimjnbjlbaaGreatDoor
open Go.RowKit
set_option maxRecDepth 10000
set_option maxHeartbeats 8000000
structure StAt (w:World) (q:Nat) (cs:Array Value):Prop where
  o:w.heap[q]?=some (.cells cs 91 (0,0))
  n:cs.size=10
theorem StAt.lt {w:World} {q:Nat} {cs:Array Value} (h:StAt w q cs):q<w.heap.size:=(hLt h.o)
theorem StAt.put {w:World} {q:Nat} {cs:Array Value} (h:StAt w q cs) (i:Nat) (v:Value):StAt (w.setCell ⟨q,i,none⟩ v) q (cs.setIfInBounds i v):=⟨yB h.o i v,by rw [Array.size_setIfInBounds];exact h.n⟩
theorem StAt.same {w w':World} {q:Nat} {cs:Array Value} (h:StAt w q cs) (e:w'.heap[q]?=w.heap[q]?):StAt w' q cs:=⟨e.trans h.o,h.n⟩
theorem StAt.stp {w w':World} {q b B:Nat} {cs:Array Value} (h:StAt w q cs) (hs:SStp B (fun k=>k=b) w w') (hq:q≠b):StAt w' q cs:=h.same (hs.off.block q h.lt hq)
theorem StAt.cell {w:World} {q:Nat} {cs:Array Value} (h:StAt w q cs) (i:Nat) (hi:i<10):∃ u,w.cell? ⟨q,i,none⟩=some u:=⟨cs[i]'(by rw [h.n];exact hi),by rw [yb h.o,Array.getElem?_eq_getElem]⟩
theorem y62 (x:List UInt8) (s:Ls):(zH x s).2.1=s.1:=by
  unfold zH
  split
  · rfl
  · rw [xx];unfold xM;split <;> first | rfl | exact xZ _ _
theorem y63 (fr tk:Int) (L:List OpL) (s:Ls):(zk fr tk L s).2.1=s.1/\(zk fr tk L s).1.length<=L.length:=by
  rcases List.eq_nil_or_concat L with rfl | ⟨M,o,rfl⟩
  · exact ⟨xZ _ _,Nat.le_refl _⟩
  · rw [List.concat_eq_append,y01]
    split
    · exact ⟨rfl,by simp⟩
    · exact ⟨xZ _ _,by simp⟩
theorem y64 (x:List UInt8) (L:List OpL) (s:Ls):(opP x L s).2.1=s.1/\(opP x L s).1.length<=L.length+1:=by
  have ht:=fun fr tk=>y63 fr tk L s
  unfold opP
  repeat' split
  · exact ⟨rfl,by simp⟩
  · exact ⟨rfl,by simp⟩
  · exact ⟨(ht 1 4).1,by have:=(ht 1 4).2;omega⟩
  · exact ⟨(ht 1 5).1,by have:=(ht 1 5).2;omega⟩
  · exact ⟨(ht 2 7).1,by have:=(ht 2 7).2;omega⟩
  · exact ⟨y62 _ _,by simp⟩
def zJ:Nat->List OpL->Ls->List OpL × Ls
  | 0,L,s=>(L,s)
  | n+1,L,s=>if (yg s).1.2=true then zJ n (opP (yg s).1.1 L (yg s).2).1 (opP (yg s).1.1 L (yg s).2).2 else (L,(yg s).2)
def opsP (s:Ls):List OpL × Ls:=zJ (s.1.length+1) (opP (ye s).1 [] (ye s).2).1 (opP (ye s).1 [] (ye s).2).2
theorem y65 {n:Nat} {L:List OpL} {s:Ls} {x:List UInt8} (h:(yg s).1=(x,false)):zJ (n+1) L s=(L,(yg s).2):=by simp [zJ,h]
theorem y66 {n:Nat} {L:List OpL} {s:Ls} {x:List UInt8} (h:(yg s).1=(x,true)):zJ (n+1) L s=zJ n (opP x L (yg s).2).1 (opP x L (yg s).2).2:=by simp [zJ,h]
theorem zR (s:Ls):(ye s).2.1.length<=s.1.length:=by
  have h:(yg s).2.1.length<=s.1.length:=by
    cases hk:(yg s).1.2 with
    | true=>exact Nat.le_of_lt (xX hk).1
    | false =>
      unfold yg at hk ⊢
      split
      · exact Nat.le_refl _
      · rename_i h1;rw [if_neg h1] at hk;cases hk
  unfold ye
  split
  · exact h
  · rw [xZ];exact h
structure PoAt (B b q:Nat) (cs:Array Value) (w0 w:World) (v:Value) (L:List OpL) (s:Ls):Prop where
  st:StAt w q (cs.setIfInBounds 2 v)
  own:w.ownsRow w0.heap.size 220 3 v L.length (opsC L)
  ln:LnAt w b s
  stp:SStp B (fun k=>k=b∨k=q) w0 w
def y67 (B b q:Nat) (cs:Array Value) (w0:World) (L:List OpL) (s:Ls) (e:Ending) (w:World):Prop:=e=.returned (.tuple #[])/\∃ v,PoAt B b q cs w0 w v L s
theorem y02 {B b q:Nat} {cs ct:Array Value} {w0 w w2:World} {v2:Value} {L2:List OpL} {s2:Ls} (hst:StAt w q ct) (hct:ct.setIfInBounds 2 v2=cs.setIfInBounds 2 v2) (hs:SStp B (fun k=>k=b∨k=q) w0 w) (hBq:B<=q) (hq:q<w0.heap.size) (hbq:q≠b) (h1:w2.ownsRow w0.heap.size 220 3 v2 L2.length (opsC L2)) (h2:LnAt w2 b s2) (h3:SStp B (fun k=>k=b∨w0.heap.size<=k) w w2):StAt w2 q ct/\PoAt B b q cs w0 (w2.setCell ⟨q,2,none⟩ v2) v2 L2 s2:=by
  have hst2:StAt w2 q ct:=hst.same (h3.off.block q hst.lt (by rintro (h | h) <;> omega))
  have hss:SStp B (fun k=>k=b∨k=q) w0 w2:=⟨hs.below.trans h3.below,⟨Nat.le_trans hs.off.size h3.off.size,fun k hk hn=>(h3.off.block k (Nat.lt_of_lt_of_le hk hs.off.size) (by rintro (h | h);exact hn (.inl h);omega)).trans (hs.off.block k hk hn)⟩⟩;refine ⟨hst2,?_,yN h1 (fun g hg=>heap_setCell_other _ _ _ _ (by have:=(h1.lt g hg).1;show g≠q;omega)),⟨(heap_setCell_other _ _ _ _ (Ne.symm hbq)).trans h2.o,h2.n⟩,hss.below.setCell hBq _,hss.off.trans (Off.set _ (.inr rfl))⟩;rw [<-hct];exact hst2.put 2 v2
theorem PoAt.step {B b q:Nat} {cs:Array Value} {w0 w w':World} {v:Value} {L:List OpL} {s s':Ls} (h:PoAt B b q cs w0 w v L s) (h1:LnAt w' b s') (h2:SStp B (fun k=>k=b) w w') (hbq:q≠b) (hb:b<w0.heap.size):PoAt B b q cs w0 w' v L s':=
  ⟨h.st.stp h2 hbq,zD h.own h2 hb,h1,h.stp.trans (h2.more fun _ hk=>.inl hk)⟩
theorem y68 {B b q:Nat} {s:Ls} {cs:Array Value} (w:World) (h:LnAt w b s) (hst:StAt w q cs) (hB:B<=b) (hBq:B<=q) (hbq:q≠b):Calls Tryz.prog 136 #[.pointer (some ⟨b,0,none⟩),.pointer (some ⟨q,0,none⟩)] w (y67 B b q cs w (opsP s).1 (opsP s).2):=by
  have hn:=h.n;have hbl:=h.lt;have hql:=hst.lt;obtain ⟨x,hx⟩:∃ x,(ye s).1=x:=⟨_,rfl⟩;have hxl:x.length<=9000000:=by rw [<-hx];exact Nat.le_trans (zw s) hn
  obtain ⟨s1,hs1⟩:∃ s1,(ye s).2=s1:=⟨_,rfl⟩;have hsl:s1.1.length<=s.1.length:=by rw [<-hs1];exact zR s
  have HN:Hid (Calls Tryz.prog 127 #[.pointer (some ⟨b,0,none⟩)] w (LO B b (.string (yd x)) s1 w)):=by have:=zQ w h hB;rw [hx,hs1] at this;exact this
  have HT:Hid (∀ w' s',LnAt w' b s'->Calls Tryz.prog 149 #[.pointer (some ⟨b,0,none⟩)] w' (LO B b (.tuple #[.string (yd (yg s').1.1),.bool (yg s').1.2]) (yg s').2 w')):=fun w' s' h'=>xY w' h' hB
  have HP:Hid (∀ w' s' L v x,LnAt w' b s'->w.heap.size<=w'.heap.size->w'.ownsRow w.heap.size 220 3 v L.length (opsC L)->L.length<=9000000->x.length<=9000000->Calls Tryz.prog 185 #[.pointer (some ⟨b,0,none⟩),v,.string (yd x)] w' (OO B b w.heap.size (opP x L s').1 (opP x L s').2 w')):=fun w' s' L v x a1 a2 a3 a4 a5=>y5E x w' a1 hB hbl a2 a3 a4 a5
  have HL:Hid (LnAt w b s):=h;have HS:Hid (StAt w q cs):=hst;have HR:Hid (∀ x L s,(opP x L s).2.1=s.1/\(opP x L s).1.length<=L.length+1):=y64;obtain ⟨N,hN⟩:∃ N,s.1.length+1=N:=⟨_,rfl⟩;unfold opsP;rw [hx,hs1,hN];have HNl:Hid (s.1.length+1=N):=hN;obtain ⟨LL,hLL⟩:∃ L,(opP x [] s1).1=L:=⟨_,rfl⟩;obtain ⟨ss,hss⟩:∃ s',(opP x [] s1).2=s':=⟨_,rfl⟩;have HLL:Hid ((opP x [] s1).1=LL):=hLL;have HSS:Hid ((opP x [] s1).2=ss):=hss;rw [hLL,hss];clear h hst hx hs1 hN hLL hss;go_enter Tryz.func136,Tryz.ntmps136;go_wp2_with fail
  refine cA HN.out ?_;rintro e w1 ⟨rfl,h1,h2⟩;have H1:Hid (LnAt w1 b s1/\SStp B (fun k=>k=b) w w1):=⟨h1,h2⟩;clear h1 h2;go_wp2_with fail
  refine cA (HP.out w1 s1 [] (.slice none 0 0) x H1.out.1 H1.out.2.off.size (World.ownsRow_nil _ _ _ _) (by simp) hxl) ?_;rintro e w2 ⟨v2,rfl,o1,o2,o3⟩;have hp:=y02 (cs:=cs) (HS.out.stp H1.out.2 hbq) rfl (H1.out.2.more fun _ hk=>.inl hk) hBq hql hbq o1 o2 o3;obtain ⟨u2,c2⟩:=hp.1.cell 2 (by omega);have z2:=yl hp.1.o 2;have HP2:Hid (PoAt B b q cs w (w2.setCell ⟨q,2,none⟩ v2) v2 (opP x [] s1).1 (opP x [] s1).2):=hp.2;obtain ⟨va,vc,hv2⟩:=yv o1;subst hv2;clear o1 o2 o3 hp;go_wp2_with fail
  refine cA (HT.out _ _ HP2.out.ln) ?_;rintro e w3 ⟨rfl,h1,h2⟩;have HP3:Hid (PoAt B b q cs w w3 _ (opP x [] s1).1 (yg (opP x [] s1).2).2):=HP2.out.step h1 h2 hbq hbl;clear h1 h2 HP2 c2 z2;have h0:=HR.out x [] s1;have HG0:Hid (((opP x [] s1).2.1.length+1<=N/\(opP x [] s1).2.1.length<=s.1.length)/\(opP x [] s1).1.length+(opP x [] s1).2.1.length<=s.1.length+1):=by
    have:=HNl.out;rw [h0.1];have h02:=h0.2;simp only [List.length_nil] at h02;exact ⟨⟨by omega,by omega⟩,by omega⟩
  clear h0;rw [HLL.out,HSS.out] at HG0 HP3;rw [HLL.out,HSS.out];go_wp2_with fail
  go_loopg [4,5] N (fun g v4 v5 wr=>∃ (v:Value) (L:List OpL) (sc:Ls) (x:List UInt8) (ok:Bool),v4=.string (yd x)/\v5=.bool ok/\Hid ((yg sc).1=(x,ok))/\Hid ((sc.1.length+1<=g/\sc.1.length<=s.1.length)/\L.length+sc.1.length<=s.1.length+1/\zJ N LL ss=zJ g L sc)/\Hid (PoAt B b q cs w wr v L (yg sc).2))
  case atStart=>exact ⟨_,LL,ss,_,_,rfl,rfl,rfl,⟨HG0.out.1,HG0.out.2,rfl⟩,HP3.out⟩
  case round=>
    clear HP3 HL HS HG0;obtain ⟨v,L,sc,x,ok,rfl,rfl,HTk,HG,HPo⟩:=hrel;obtain ⟨va,vc,hvs⟩:=yv HPo.out.own;subst hvs
    cases ok with
    | false =>
      have HRs:Hid (zJ N LL ss=(L,(yg sc).2)):=by
        have h1:=HG.out.2.2;obtain ⟨g',hg'⟩:∃ g',gk=g'+1:=⟨gk-1,by have:=HG.out.1.1;omega⟩;rw [hg',y65 HTk.out] at h1;exact h1
      go_wp2_with fail
      go_end0;exact ⟨rfl,_,by rw [HRs.out];exact HPo.out⟩
    | true =>
      cases gk with
      | zero=>exact absurd HG.out.1.1 (by omega)
      | succ g'=>
      have hk1:(yg sc).1.2=true:=by rw [HTk.out]
      have hk2:(yg sc).1.1=x:=by rw [HTk.out]
      have hl:=xX hk1;rw [hk2] at hl;have hG:=HG.out;have hr:=HR.out x L (yg sc).2;have HNx:Hid (((opP x L (yg sc).2).2.1.length+1<=g'/\(opP x L (yg sc).2).2.1.length<=s.1.length)/\(opP x L (yg sc).2).1.length+(opP x L (yg sc).2).2.1.length<=s.1.length+1/\zJ N LL ss=zJ g' (opP x L (yg sc).2).1 (opP x L (yg sc).2).2):=by
        refine ⟨by rw [hr.1];omega,by rw [hr.1];omega,?_⟩;rw [hG.2.2,y66 HTk.out]
      have HO2:Hid (Calls Tryz.prog 185 #[.pointer (some ⟨b,0,none⟩),.slice va L.length vc,.string (yd x)] wr (OO B b w.heap.size (opP x L (yg sc).2).1 (opP x L (yg sc).2).2 wr)):=HP.out wr _ L _ x HPo.out.ln HPo.out.stp.off.size HPo.out.own (by omega) (by omega);have c2:wr.cell? ⟨q,2,none⟩=some (.slice va L.length vc):=by
        rw [yb HPo.out.st.o 2];have hsz:=HPo.out.st.n;rw [Array.size_setIfInBounds] at hsz;rw [Array.getElem?_setIfInBounds_self_of_lt (by omega)]
      clear hk1 hk2 hl hG HG hr;go_wp2_with fail
      refine cA HO2.out ?_;rintro e w2 ⟨v2,rfl,o1,o2,o3⟩;have hp:=y02 (cs:=cs) HPo.out.st (by rw [Array.setIfInBounds_setIfInBounds]) HPo.out.stp hBq hql hbq o1 o2 o3;clear c2;obtain ⟨u2,c2⟩:=hp.1.cell 2 (by omega);have z2:=yl hp.1.o 2;have HP2:Hid (PoAt B b q cs w (w2.setCell ⟨q,2,none⟩ v2) v2 (opP x L (yg sc).2).1 (opP x L (yg sc).2).2):=hp.2;obtain ⟨va2,vc2,hv2⟩:=yv o1;subst hv2;clear o1 o2 o3 hp;go_wp2_with fail
      refine cA (HT.out _ _ HP2.out.ln) ?_;rintro e w3 ⟨rfl,h1,h2⟩;have HP3:Hid (PoAt B b q cs w w3 _ (opP x L (yg sc).2).1 (yg (opP x L (yg sc).2).2).2):=HP2.out.step h1 h2 hbq hbl;clear h1 h2 HP2 c2 z2;go_wp2_with fail
      go_roundg g'
      case measure=>omega
      case rel=>exact ⟨_,_,(opP x L (yg sc).2).2,_,_,rfl,rfl,rfl,HNx.out,HP3.out⟩
end Go.Proofs.YtjgghimjnbjlbaaGreatDoor

namespace Go.Proofs.YtjgghimjnbjlbaaGreatDoor
open Go.RowKit
set_option maxRecDepth 10000
set_option maxHeartbeats 8000000
def RO (B b q:Nat) (w:World) (Ps:Array Value->World->Prop) (s':Ls) (e:Ending) (w':World):Prop:=e=.returned (.tuple #[])/\∃ cs',StAt w' q cs'/\Ps cs' w'/\LnAt w' b s'/\SStp B (fun k=>k=b∨k=q) w w'
theorem zd {B b q:Nat} {s:Ls} {cs:Array Value} {w w2:World} (hst:StAt w2 q cs) (hl:LnAt w2 b s) (hs:SStp B (fun k=>k=b∨k=q) w w2) (hBq:B<=q) (hbq:q≠b) (i:Nat) (v:Value):StAt (w2.setCell ⟨q,i,none⟩ v) q (cs.setIfInBounds i v)/\LnAt (w2.setCell ⟨q,i,none⟩ v) b s/\SStp B (fun k=>k=b∨k=q) w (w2.setCell ⟨q,i,none⟩ v):=
  ⟨hst.put i v,⟨(heap_setCell_other _ _ _ _ (Ne.symm hbq)).trans hl.o,hl.n⟩,hs.below.setCell hBq _,hs.off.trans (Off.set _ (.inr rfl))⟩
def Y0 (s:Ls):List UInt8 × Ls:=((ye s).1,yr (ye s).1 0 (ye s).2)
theorem y69 {B b q:Nat} {s:Ls} {cs:Array Value} (w:World) (h:LnAt w b s) (hst:StAt w q cs) (hB:B<=b) (hBq:B<=q) (hbq:q≠b):Calls Tryz.prog 134 #[.pointer (some ⟨b,0,none⟩),.pointer (some ⟨q,0,none⟩)] w (RO B b q w (fun cs' _=>cs'=cs.setIfInBounds 1 (.string (yd (Y0 s).1))) (Y0 s).2):=by
  have hn:=h.n;unfold Y0;obtain ⟨y,hy⟩:∃ y,(ye s).1=y:=⟨_,rfl⟩;have hyl:y.length<=9000000:=by rw [<-hy];exact Nat.le_trans (zw s) hn
  have HN:Hid (Calls Tryz.prog 127 #[.pointer (some ⟨b,0,none⟩)] w (LO B b (.string (yd y)) (ye s).2 w)):=by have:=zQ w h hB;rw [hy] at this;exact this
  have HI:Hid (∀ w' s',LnAt w' b s'->Calls Tryz.prog 183 #[.pointer (some ⟨b,0,none⟩),.string (yd y)] w' (LO B b (.string (yd y)) (yr y 0 s') w')):=fun w' s' h'=>KU y w' h' hB hyl
  have HS:Hid (StAt w q cs):=hst;rw [hy];clear h hst hy;go_enter Tryz.func134,Tryz.ntmps134;go_wp2_with fail
  refine cA HN.out ?_;rintro e w1 ⟨rfl,h1,h2⟩;have H1:Hid (LnAt w1 b (ye s).2/\SStp B (fun k=>k=b) w w1):=⟨h1,h2⟩;clear h1 h2;go_wp2_with fail
  refine cA (HI.out w1 _ H1.out.1) ?_;rintro e w2 ⟨rfl,h3,h4⟩;have H2:Hid (LnAt w2 b (yr y 0 (ye s).2)/\SStp B (fun k=>k=b) w w2):=⟨h3,H1.out.2.trans h4⟩;clear h3 h4;have hS2:=HS.out.stp H2.out.2 hbq;obtain ⟨u,c1⟩:=hS2.cell 1 (by omega);have z1:=yl hS2.o 1;have HE:Hid (StAt (w2.setCell ⟨q,1,none⟩ (.string (yd y))) q (cs.setIfInBounds 1 (.string (yd y)))/\LnAt (w2.setCell ⟨q,1,none⟩ (.string (yd y))) b (yr y 0 (ye s).2)/\SStp B (fun k=>k=b∨k=q) w (w2.setCell ⟨q,1,none⟩ (.string (yd y)))):=zd hS2 H2.out.1 (H2.out.2.more fun _ hk=>.inl hk) hBq hbq 1 _;clear hS2;go_wp2_with fail
  go_end0;exact ⟨rfl,_,HE.out.1,rfl,HE.out.2.1,HE.out.2.2⟩
theorem y6a {B b q:Nat} {s:Ls} {cs:Array Value} (w:World) (h:LnAt w b s) (hst:StAt w q cs) (hB:B<=b) (hBq:B<=q) (hbq:q≠b):Calls Tryz.prog 142 #[.pointer (some ⟨b,0,none⟩),.pointer (some ⟨q,0,none⟩)] w (RO B b q w (fun cs' w'=>∃ v,cs'=cs.setIfInBounds 5 v/\w'.ownsRow w.heap.size 3 1 v (zl ze s).1.length ((zl ze s).1.map fun x=>.int .i64 (litP x).1)) (zl ze s).2):=by
  have hql:=hst.lt;have HN:Hid (Calls Tryz.prog 191 #[.pointer (some ⟨b,0,none⟩),.func (.func 192) #[.pointer (some ⟨b,0,none⟩)] #[]] w (LOr B b 3 ((zl ze s).1.map fun x=>.int .i64 (litP x).1) (zl ze s).2 w)):=y5z w h hB;have HS:Hid (StAt w q cs):=hst;obtain ⟨r,hr⟩:∃ r,zl ze s=r:=⟨_,rfl⟩;rw [hr] at HN ⊢;clear h hst hr;go_enter Tryz.func142,Tryz.ntmps142;go_wp2_with fail
  refine cA HN.out ?_;rintro e w1 ⟨v,rfl,h0,h1,h2⟩;rw [List.length_map] at h0;have hS2:=HS.out.stp h2 hbq;obtain ⟨u,c1⟩:=hS2.cell 5 (by omega);have z1:=yl hS2.o 5
  have HE:Hid ((StAt (w1.setCell ⟨q,5,none⟩ v) q (cs.setIfInBounds 5 v)/\LnAt (w1.setCell ⟨q,5,none⟩ v) b r.2/\SStp B (fun k=>k=b∨k=q) w (w1.setCell ⟨q,5,none⟩ v))/\(w1.setCell ⟨q,5,none⟩ v).ownsRow w.heap.size 3 1 v r.1.length (r.1.map fun x=>.int .i64 (litP x).1)):=⟨zd hS2 h1 (h2.more fun _ hk=>.inl hk) hBq hbq 5 _,by
    exact yN h0 fun g hg=>heap_setCell_other _ _ _ _ (by have:=(h0.lt g hg).1;show g≠q;omega)⟩
  obtain ⟨va,vc,hvs⟩:=yv h0;subst hvs;clear hS2 h0 h1 h2;go_wp2_with fail
  go_end0;exact ⟨rfl,_,HE.out.1.1,⟨_,rfl,HE.out.2⟩,HE.out.1.2.1,HE.out.1.2.2⟩
theorem y6b {B b q:Nat} {s:Ls} {cs:Array Value} (w:World) (h:LnAt w b s) (hst:StAt w q cs) (hB:B<=b) (hbq:q≠b):Calls Tryz.prog 146 #[.pointer (some ⟨b,0,none⟩),.pointer (some ⟨q,0,none⟩)] w (RO B b q w (fun cs' _=>cs'=cs) ([],s.2)):=by
  have c0:w.cell? ⟨b,0,none⟩=some (.string (yd s.1)):=yb h.o 0;have z0:=yl h.o 0;have HE:Hid (RO B b q w (fun cs' _=>cs'=cs) ([],s.2) (.returned (.tuple #[])) (w.setCell ⟨b,0,none⟩ (.string ⟨#[]⟩))):=⟨rfl,cs,hst.same (heap_setCell_other _ _ _ _ hbq),rfl,h.put0 [] (by simp),(Below.refl _ _).setCell hB _,Off.set _ (.inl rfl)⟩;clear h hst;go_enter Tryz.func146,Tryz.ntmps146;go_wp2_with fail
  go_end0;exact HE.out
theorem y6c {B b q:Nat} {s:Ls} {cs:Array Value} (w:World) (h:LnAt w b s) (hst:StAt w q cs):Calls Tryz.prog 132 #[.pointer (some ⟨b,0,none⟩),.pointer (some ⟨q,0,none⟩)] w (RO B b q w (fun cs' _=>cs'=cs) s):=by
  have HE:Hid (RO B b q w (fun cs' _=>cs'=cs) s (.returned (.tuple #[])) w):=⟨rfl,cs,hst,rfl,h,SStp.refl _ _ _⟩;clear h hst;go_enter Tryz.func132,Tryz.ntmps132;go_wp2_with fail
  go_end0;exact HE.out
end Go.Proofs.YtjgghimjnbjlbaaGreatDoor
