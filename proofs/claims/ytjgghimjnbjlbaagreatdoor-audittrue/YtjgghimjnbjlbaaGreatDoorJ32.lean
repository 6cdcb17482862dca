/-
  Put together: Settled, Parse.
-/
import Derived.Test.YtjgghimjnbjlbaaGreatDoorJ31
import Derived.Test.YtjgghimjnbjlbaaGreatDoorTally
import Derived.Test.YtjgghimjnbjlbaaGreatDoorJ28
import Derived.Test.YtjgghimjnbjlbaaGreatDoorShelf
namespace Go.Proofs.YtjgghimjnbjlbaaGreatDoor
open Go.RowKit
set_option maxRecDepth 10000
set_option maxHeartbeats 8000000
open Bn (yj)
def Fits (z:Int):Prop:=-9223372036854775808<=z/\z<=9223372036854775807
def BigAt (w:World) (v:Value) (z:Int):Prop:=
  (Fits z/\v=.agg #[.int .i64 z,.pointer none]) ∨
  (¬ Fits z/\∃ p s,v=.agg #[.int .i64 0,.pointer (some ⟨p,0,none⟩)]/\p<w.heap.size/\w.cell? ⟨p,0,none⟩=some (.bool (decide (z<0)))/\w.cell? ⟨p,1,none⟩=some s/\U32At w s (yj z.natAbs))
theorem BigAt.below {w w':World} {v:Value} {z:Int} (h:BigAt w v z) (hb:Below w.heap.size w w'):BigAt w' v z:=by
  rcases h with h | ⟨h,p,s,hv,hp,h0,h1,hU⟩
  · exact .inl h
  · exact .inr ⟨h,p,s,hv,Nat.lt_of_lt_of_le hp hb.size,(hb.cell (p:=⟨p,0,none⟩) hp).trans h0,(hb.cell (p:=⟨p,1,none⟩) hp).trans h1,hU.below hb⟩
def sg (neg:Bool) (x:Nat):Int:=if neg then -(x:Int) else (x:Int)
theorem y6N (neg:Bool) (x:Nat):(sg neg x).natAbs=x:=by unfold sg;split <;> omega
theorem y6O (neg:Bool) (x:Nat) (h:0<x):decide (sg neg x<0)=neg:=by
  unfold sg;cases neg <;> simp <;> omega
theorem BigAt.wide {w:World} {neg:Bool} {x q:Nat} {s:Value} (hf:¬ Fits (sg neg x)) (hq:q<w.heap.size) (h0:w.cell? ⟨q,0,none⟩=some (.bool neg)) (h1:w.cell? ⟨q,1,none⟩=some s) (hU:U32At w s (yj x)) :
    BigAt w (.agg #[.int .i64 0,.pointer (some ⟨q,0,none⟩)]) (sg neg x):=by
  have hx:0<x:=by
    rcases Nat.eq_zero_or_pos x with h | h
    · exact absurd (by subst h;unfold sg Fits;cases neg <;> simp) hf
    · exact h
  exact .inr ⟨hf,q,s,rfl,hq,by rw [y6O _ _ hx];exact h0,h1,by rw [y6N];exact hU⟩
theorem y6P {a:Int} (h0:0<=a) (h1:a<=9223372036854775808):wrap64 (IntKind.u64.wrap (-a))=-a:=by
  rw [IntKind.wrap_u64];unfold wrap64;omega
theorem X0 {w w1:World} (hb:Below (w.alloc (.cells #[.int .i64 0,.pointer none] 275)).heap.size (w.alloc (.cells #[.int .i64 0,.pointer none] 275)) w1) :
    w.heap.size<w1.heap.size/\(∀ o,(w1.alloc o).cell? ⟨w.heap.size,0,none⟩=some (.int .i64 0))/\(∀ o v,((w1.setCell ⟨w.heap.size,0,none⟩ v).alloc o).cell? ⟨w.heap.size,1,none⟩=some (.pointer none)) /\
    (∀ o,(w1.alloc o).frozen? ⟨w.heap.size,0,none⟩=false)/\(∀ o v,((w1.setCell ⟨w.heap.size,0,none⟩ v).alloc o).frozen? ⟨w.heap.size,1,none⟩=false):=by
  have hlt:w.heap.size<w1.heap.size:=by have:=hb.size;simp at this;omega
  have hlt':∀ v,w.heap.size<(w1.setCell ⟨w.heap.size,0,none⟩ v).heap.size:=fun v=>by simp [World.setCell];exact hlt
  refine ⟨hlt,fun o=>?_,fun o v=>?_,fun o=>?_,fun o v=>?_⟩
  · exact (World.cell?_alloc_past _ _ _ hlt).trans ((hb.cell (p:=⟨w.heap.size,0,none⟩) (by simp)).trans (by simp))
  · rw [World.cell?_alloc_past _ _ _ (hlt' v),World.cell?_setCell_other (h:=show (⟨w.heap.size,0,none⟩:Addr)≠⟨w.heap.size,1,none⟩ by simp)]
    exact (hb.cell (p:=⟨w.heap.size,1,none⟩) (by simp)).trans (by simp)
  · exact (World.frozen?_alloc_past _ _ _ hlt).trans ((hb.frozen (p:=⟨w.heap.size,0,none⟩) (by simp)).trans (by simp))
  · rw [World.frozen?_alloc_past _ _ _ (hlt' v),World.frozen?_setCell]
    exact (hb.frozen (p:=⟨w.heap.size,1,none⟩) (by simp)).trans (by simp)
theorem X3 {w w1:World} {neg:Bool} {x:Nat} {s:Value} (hb:Below (w.alloc (.cells #[.int .i64 0,.pointer none] 275)).heap.size (w.alloc (.cells #[.int .i64 0,.pointer none] 275)) w1) (hU:U32At w1 s (yj x)) (hne:s.ownBlock≠some w.heap.size) (hf:¬ Fits (sg neg x)) :
    (((w1.setCell ⟨w.heap.size,0,none⟩ (.int .i64 0)).setCell ⟨w.heap.size,1,none⟩ (.pointer (some ⟨w1.heap.size,0,none⟩))).alloc (.cells #[.bool neg,s] 294)).cell? ⟨w.heap.size,0,none⟩=some (.int .i64 0) /\
    (((w1.setCell ⟨w.heap.size,0,none⟩ (.int .i64 0)).setCell ⟨w.heap.size,1,none⟩ (.pointer (some ⟨w1.heap.size,0,none⟩))).alloc (.cells #[.bool neg,s] 294)).cell? ⟨w.heap.size,1,none⟩=some (.pointer (some ⟨w1.heap.size,0,none⟩)) /\
    BigAt (((w1.setCell ⟨w.heap.size,0,none⟩ (.int .i64 0)).setCell ⟨w.heap.size,1,none⟩ (.pointer (some ⟨w1.heap.size,0,none⟩))).alloc (.cells #[.bool neg,s] 294)) (.agg #[.int .i64 0,.pointer (some ⟨w1.heap.size,0,none⟩)]) (sg neg x) /\
    Below w.heap.size w (((w1.setCell ⟨w.heap.size,0,none⟩ (.int .i64 0)).setCell ⟨w.heap.size,1,none⟩ (.pointer (some ⟨w1.heap.size,0,none⟩))).alloc (.cells #[.bool neg,s] 294)):=by
  have hlt:w.heap.size<w1.heap.size:=by have:=hb.size;simp at this;omega
  have c0:w1.cell? ⟨w.heap.size,0,none⟩=some (.int .i64 0):=(hb.cell (p:=⟨w.heap.size,0,none⟩) (by simp)).trans (by simp);have c1:w1.cell? ⟨w.heap.size,1,none⟩=some (.pointer none):=(hb.cell (p:=⟨w.heap.size,1,none⟩) (by simp)).trans (by simp);have hb0:Below w.heap.size w (w.alloc (.cells #[.int .i64 0,.pointer none] 275)):=(Below.refl _ _).alloc (Nat.le_refl _) _;have hb1:Below w.heap.size w w1:=hb0.trans (hb.mono (by simp));have hb2:=(hb1.setCell (p:=⟨w.heap.size,0,none⟩) (Nat.le_refl _) (.int .i64 0)).setCell (p:=⟨w.heap.size,1,none⟩) (Nat.le_refl _) (.pointer (some ⟨w1.heap.size,0,none⟩));have hU2:=(hU.setCell (p:=⟨w.heap.size,0,none⟩) hne (.int .i64 0)).setCell (p:=⟨w.heap.size,1,none⟩) hne (.pointer (some ⟨w1.heap.size,0,none⟩))
  have e0:((w1.setCell ⟨w.heap.size,0,none⟩ (.int .i64 0)).setCell ⟨w.heap.size,1,none⟩ (.pointer (some ⟨w1.heap.size,0,none⟩))).cell? ⟨w.heap.size,0,none⟩=some (.int .i64 0):=by
    rw [World.cell?_setCell_other (h:=show (⟨w.heap.size,1,none⟩:Addr)≠⟨w.heap.size,0,none⟩ by simp)];exact World.cell?_setCell_same' _ _ _ (by rw [c0];rfl)
  have e1:((w1.setCell ⟨w.heap.size,0,none⟩ (.int .i64 0)).setCell ⟨w.heap.size,1,none⟩ (.pointer (some ⟨w1.heap.size,0,none⟩))).cell? ⟨w.heap.size,1,none⟩=some (.pointer (some ⟨w1.heap.size,0,none⟩)):=by
    refine World.cell?_setCell_same' _ _ _ ?_;rw [World.cell?_setCell_other (h:=show (⟨w.heap.size,0,none⟩:Addr)≠⟨w.heap.size,1,none⟩ by simp),c1];rfl
  have hsz:((w1.setCell ⟨w.heap.size,0,none⟩ (.int .i64 0)).setCell ⟨w.heap.size,1,none⟩ (.pointer (some ⟨w1.heap.size,0,none⟩))).heap.size=w1.heap.size:=by simp [World.setCell]
  generalize (w1.setCell ⟨w.heap.size,0,none⟩ (.int .i64 0)).setCell ⟨w.heap.size,1,none⟩ (.pointer (some ⟨w1.heap.size,0,none⟩))=V at *
  refine ⟨(World.cell?_alloc_past _ _ _ (by omega)).trans e0,(World.cell?_alloc_past _ _ _ (by omega)).trans e1,?_,hb2.alloc (by omega) _⟩;rw [<-hsz];exact BigAt.wide hf (by simp) (by simp) (by simp) (hU2.below ((Below.refl _ _).alloc (Nat.le_refl _) _))
theorem y6Q (neg:Bool) (x:Nat) (w:World) (hx:x<18446744073709551616) :
    Calls Tryz.prog 250 #[.bool neg,.int .u64 (x:Int)] w fun e w'=>∃ v,e=.returned v/\BigAt w' v (sg neg x)/\Below w.heap.size w w':=by
  obtain ⟨a,ha⟩:∃ a:Int,a=(x:Int):=⟨_,rfl⟩;have ha0:0<=a:=by omega
  have ha1:a<=18446744073709551615:=by omega
  have HA:Hid (a=(x:Int)):=ha
  by_cases hf:Fits (sg neg x)
  · cases neg with
    | true =>
      have h1:a<=9223372036854775808:=by unfold Fits sg at hf;simp at hf;omega
      have HZ:Hid (sg true x=-a):=by show _=_;rw [ha];rfl
      rw [<-ha];clear ha hx;have HF:Hid (Fits (sg true x)):=hf;clear hf;go_enter Tryz.func250,Tryz.ntmps250;go_wp2_with fail
      rw [y6P ha0 h1];refine (y0j _ _).mono ?_;rintro e w1 ⟨rfl,hb⟩;obtain ⟨hc,hfz⟩:=xE hb;go_wp2;have hb0:Below w.heap.size w (w.alloc (.cells #[.int .i64 0,.pointer none] 275)):=(Below.refl _ _).alloc (Nat.le_refl _) _;exact bodyPost_ret (v:=.agg #[.int .i64 (-a),.pointer none]) (by simp [results,Tryz.results250,go_sem,hc]) rfl ⟨_,rfl,.inl ⟨HF.out,by rw [HZ.out]⟩,((hb0.trans (hb.mono (by simp))).setCell (by simp) _).setCell (by simp) _⟩
    | false =>
      have h1:a<=9223372036854775807:=by unfold Fits sg at hf;simp at hf;omega
      have HZ:Hid (sg false x=a):=by show _=_;rw [ha];rfl
      rw [<-ha];clear ha hx;have HF:Hid (Fits (sg false x)):=hf;clear hf;go_enter Tryz.func250,Tryz.ntmps250;go_wp2_with fail
      refine (y0j _ _).mono ?_;rintro e w1 ⟨rfl,hb⟩;obtain ⟨hc,hfz⟩:=xE hb;go_wp2;have hb0:Below w.heap.size w (w.alloc (.cells #[.int .i64 0,.pointer none] 275)):=(Below.refl _ _).alloc (Nat.le_refl _) _;exact bodyPost_ret (v:=.agg #[.int .i64 a,.pointer none]) (by simp [results,Tryz.results250,go_sem,hc]) rfl ⟨_,rfl,.inl ⟨HF.out,by rw [HZ.out]⟩,((hb0.trans (hb.mono (by simp))).setCell (by simp) _).setCell (by simp) _⟩
  · have HF:Hid (¬ Fits (sg neg x)):=hf
    have hN1:neg=true->¬ a<=9223372036854775808:=by
      intro e h;apply hf;subst e;unfold Fits sg;simp;omega
    have hN2:neg=false->¬ a<=9223372036854775807:=by
      intro e h;apply hf;subst e;unfold Fits sg;simp;omega
    rw [<-ha];clear ha hf
    cases neg with
    | true =>
      have hN:=hN1 rfl;clear hN1 hN2;go_enter Tryz.func250,Tryz.ntmps250;go_wp2_with fail
      rw [HA.out];refine (y0k x _ hx).mono ?_;rintro e w1 ⟨v,rfl,hU,hb,hfr⟩;have hne:v.ownBlock≠some w.heap.size:=fun e=>by have:=hfr _ e;simp at this;omega
      clear hfr;obtain ⟨a1,cp1,hv,_⟩:=hU.form;subst hv;obtain ⟨hlt,k0,k1,k2,k3⟩:=X0 hb;have HW:Hid _:=X3 (neg:=true) hb hU hne HF.out;clear hb;go_wp2;obtain ⟨m0,m1,m2,m3⟩:=HW.out;exact bodyPost_ret (v:=.agg #[.int .i64 0,.pointer (some ⟨w1.heap.size,0,none⟩)]) (by simp [results,Tryz.results250,go_sem,m0,m1]) rfl ⟨_,rfl,m2,m3⟩
    | false =>
      have hN:=hN2 rfl;clear hN1 hN2;go_enter Tryz.func250,Tryz.ntmps250;go_wp2_with fail
      rw [HA.out];refine (y0k x _ hx).mono ?_;rintro e w1 ⟨v,rfl,hU,hb,hfr⟩;have hne:v.ownBlock≠some w.heap.size:=fun e=>by have:=hfr _ e;simp at this;omega
      clear hfr;obtain ⟨a1,cp1,hv,_⟩:=hU.form;subst hv;obtain ⟨hlt,k0,k1,k2,k3⟩:=X0 hb;have HW:Hid _:=X3 (neg:=false) hb hU hne HF.out;clear hb;go_wp2;obtain ⟨m0,m1,m2,m3⟩:=HW.out;exact bodyPost_ret (v:=.agg #[.int .i64 0,.pointer (some ⟨w1.heap.size,0,none⟩)]) (by simp [results,Tryz.results250,go_sem,m0,m1]) rfl ⟨_,rfl,m2,m3⟩
theorem U32At.old {w:World} {v:Value} {l:List Nat} (h:U32At w v l) {k:Nat} (hk:w.heap.size<=k):v.ownBlock≠some k:=by
  rcases h with ⟨h,_⟩ | ⟨b,off,cap,hv,hlt,_⟩
  · rw [h];simp [Value.ownBlock]
  · rw [hv];simp only [Value.ownBlock];intro e;injection e with e;omega
theorem y6R {w:World} {N:Nat} {y:Int} {q:Option Addr} (hN:w.heap[N]?=some (.cells #[.int .i64 y,.pointer q] 275)) :
    w.cell? ⟨N,0,none⟩=some (.int .i64 y)/\w.cell? ⟨N,1,none⟩=some (.pointer q)/\∀ o,w.cell? ⟨N,o+2,none⟩=none:=by
  refine ⟨?_,?_,fun o=>?_⟩ <;> simp [World.cell?,hN]
theorem BigAt.setBox {w:World} {v:Value} {z:Int} {N:Nat} {y:Int} {q:Option Addr} (h:BigAt w v z) (hN:w.heap[N]?=some (.cells #[.int .i64 y,.pointer q] 275)) (a b:Value):BigAt ((w.setCell ⟨N,0,none⟩ a).setCell ⟨N,1,none⟩ b) v z:=by
  rcases h with h | ⟨h,p,s,hv,hp,h0,h1,hU⟩
  · exact .inl h
  · obtain ⟨k0,k1,k2⟩:=y6R hN
    have hpN:p≠N:=by
      intro e;subst e;rw [k0] at h0;simp at h0
    have hsN:s.ownBlock≠some N:=by
      have hl:0<(yj z.natAbs).length:=by
        rcases Nat.eq_zero_or_pos (yj z.natAbs).length with e | e
        · have:=Bn.limbs_eq_nil.1 (List.eq_nil_of_length_eq_zero e)
          exact absurd (by unfold Fits;omega) h
        · exact e
      obtain ⟨bb,off,cap,hs,hb,_,_,hc⟩:=hU.pos hl;rw [hs];intro e;simp only [Value.ownBlock,Option.some.injEq] at e;subst e;have hc0:=hc 0 hl
      match off,hc0 with
      | 0,hc0=>rw [k0] at hc0;simp at hc0
      | 1,hc0=>rw [show 1+0=1 from rfl,k1] at hc0;simp at hc0
      | o+2,hc0=>rw [show o+2+0=o+2 from rfl,k2] at hc0;simp at hc0
    have hb:((w.setCell ⟨N,0,none⟩ a).setCell ⟨N,1,none⟩ b).heap[p]?=w.heap[p]?:=by
      rw [Below.heap_setCell _ _ _ _ hpN,Below.heap_setCell _ _ _ _ hpN]
    exact .inr ⟨h,p,s,hv,by simp [World.setCell];exact hp,(World.cell?_of_block (w:=w) (a:=⟨p,0,none⟩) hb).trans h0,(World.cell?_of_block (w:=w) (a:=⟨p,1,none⟩) hb).trans h1,
      (hU.setCell (p:=⟨N,0,none⟩) hsN _).setCell (p:=⟨N,1,none⟩) hsN _⟩
theorem BigAt.shape {w:World} {v:Value} {z:Int} (h:BigAt w v z):∃ (y:Int) (q:Option Addr),v=.agg #[.int .i64 y,.pointer q]:=by
  rcases h with ⟨_,h⟩ | ⟨_,p,s,h,_⟩
  · exact ⟨_,_,h⟩
  · exact ⟨_,_,h⟩
theorem ZG {w w1:World} (hb:Below (w.alloc (.cells #[.int .i64 0,.pointer none] 275)).heap.size (w.alloc (.cells #[.int .i64 0,.pointer none] 275)) w1):w1.heap[w.heap.size]?=some (.cells #[.int .i64 0,.pointer none] 275):=
  (hb.block w.heap.size (by simp)).trans (World.alloc_heap_new w _)
theorem Kt (neg:Bool) (x:Nat) (v:Value) (w:World) (h:U32At w v (yj x)) :
    Calls Tryz.prog 243 #[.bool neg,v] w fun e w'=>∃ r,e=.returned r/\BigAt w' r (sg neg x)/\Below w.heap.size w w':=by
  have hne:=h.old (Nat.le_refl _);obtain ⟨a1,cp1,rfl,_⟩:=h.form;have hb0:Below w.heap.size w (w.alloc (.cells #[.int .i64 0,.pointer none] 275)):=(Below.refl _ _).alloc (Nat.le_refl _) _;have hU0:=h.below hb0
  by_cases hx:x<10000000000000000000
  · have HU:Hid (U32At (w.alloc (.cells #[.int .i64 0,.pointer none] 275)) (.slice a1 (yj x).length cp1) (yj x)):=hU0
    clear h hU0 hne;go_enter Tryz.func243,Tryz.ntmps243;go_wp2_with fail
    refine (y6S x _ _ HU.out hx).mono ?_;rintro e w1 ⟨rfl,hb1⟩;go_wp2_with fail
    refine (y6Q neg x _ (by omega)).mono ?_;rintro e w2 ⟨r,rfl,hB,hb2⟩;have hb3:Below (w.alloc (.cells #[.int .i64 0,.pointer none] 275)).heap.size (w.alloc (.cells #[.int .i64 0,.pointer none] 275)) w2:=hb1.trans (hb2.mono hb1.size);obtain ⟨hc,hfz⟩:=xE hb3;have HB:Hid (BigAt w2 r (sg neg x)):=hB;have hfin:=hb0.trans (hb3.mono (by simp));have HN:Hid _:=ZG hb3;obtain ⟨y,q,hr⟩:=hB.shape;subst hr;clear hB hb1 hb2 hb3;go_wp2;exact bodyPost_ret (v:=.agg #[.int .i64 y,.pointer q]) (by simp [results,Tryz.results243,go_sem,hc]) rfl ⟨_,rfl,HB.out.setBox HN.out _ _,(hfin.setCell (by simp) _).setCell (by simp) _⟩
  · have HU:Hid (U32At (w.alloc (.cells #[.int .i64 0,.pointer none] 275)) (.slice a1 (yj x).length cp1) (yj x)):=hU0
    have HF:Hid (¬ Fits (sg neg x)):=by
      show ¬ _;unfold Fits sg
      split <;> omega
    clear h hU0;go_enter Tryz.func243,Tryz.ntmps243;go_wp2_with fail
    refine (y6T x _ _ HU.out (by omega)).mono ?_;rintro e w1 ⟨rfl,hw1⟩;have hb:Below (w.alloc (.cells #[.int .i64 0,.pointer none] 275)).heap.size (w.alloc (.cells #[.int .i64 0,.pointer none] 275)) w1:=by rw [hw1];exact Below.refl _ _
    have hU:U32At w1 (.slice a1 (yj x).length cp1) (yj x):=by rw [hw1];exact HU.out
    obtain ⟨hlt,k0,k1,k2,k3⟩:=X0 hb;have HW:Hid _:=X3 (neg:=neg) hb hU hne HF.out;clear hb hw1 HU;go_wp2;obtain ⟨m0,m1,m2,m3⟩:=HW.out;exact bodyPost_ret (v:=.agg #[.int .i64 0,.pointer (some ⟨w1.heap.size,0,none⟩)]) (by simp [results,Tryz.results243,go_sem,m0,m1]) rfl ⟨_,rfl,m2,m3⟩
end Go.Proofs.YtjgghimjnbjlbaaGreatDoor

namespace Go.Proofs.YtjgghimjnbjlbaaGreatDoor
open Go.RowKit
set_option maxRecDepth 10000
set_option maxHeartbeats 8000000
open Bn (yj)
def ZE (l:List UInt8):Bool:=Lib.hasPrefix l [45]
def xV (l:List UInt8):List UInt8:=Lib.trimPrefix l [45]
def yR (l:List UInt8):Option Int:=if l=[48]∨xW (xV l)=true then some (sg (ZE l) (dval (xV l))) else none
def xu (o:Option Int):Int:=if o.isSome then 0 else 10
theorem y4G (l:List UInt8):(xV l).length<=l.length:=by
  unfold xV Lib.trimPrefix;split
  · rw [List.length_drop];omega
  · exact Nat.le_refl _
theorem y4H (l:List UInt8):(⟨l.toArray⟩:ByteArray).size=l.length:=by show l.toArray.size=_;simp
theorem y4I {l:List UInt8} (h:xW l=true):l.all za=true:=by
  unfold xW at h;simp at h;rw [List.all_eq_true];exact h.2
theorem ZF (s:ByteArray) (w:World) (hs:s.size<=9000000) :
    Calls Tryz.prog 233 #[.string s] w fun e w'=>∃ v,e=.returned (.tuple #[v,.int .i64 (xu (yR s.data.toList))])/\BigAt w' v ((yR s.data.toList).getD 0)/\Below w.heap.size w w':=by
  have hb0:Below w.heap.size w (w.alloc (.cells #[.int .i64 0,.pointer none] 275)):=(Below.refl _ _).alloc (Nat.le_refl _) _;obtain ⟨l,hl⟩:∃ l,l=s.data.toList:=⟨_,rfl⟩;have hll:l.length=s.size:=by rw [hl];simp
  have hC:=Tryz.strings_CutPrefix s ⟨#[45]⟩;rw [<-hl] at hC ⊢;have hC':∀ w,Calls Tryz.prog 217 #[.string s,.string ⟨#[45]⟩] w fun e w'=>e=.returned (.tuple #[.string ⟨(xV l).toArray⟩,.bool (ZE l)])/\w'=w:=hC
  clear hC;obtain ⟨d,hd⟩:∃ d:ByteArray,d=⟨(xV l).toArray⟩:=⟨_,rfl⟩;have hdl:d.data.toList=xV l:=by rw [hd]
  have hds:d.size<=9000000:=by rw [hd,y4H];have:=y4G l;omega
  rw [<-hd] at hC';obtain ⟨m,hm⟩:∃ m,m=ZE l:=⟨_,rfl⟩;rw [<-hm] at hC';have HC:Hid (∀ w,Calls Tryz.prog 217 #[.string s,.string ⟨#[45]⟩] w fun e w'=>e=.returned (.tuple #[.string d,.bool m])/\w'=w):=hC'
  by_cases h48:l=[48]
  · have hz:(s.toList==[48])=true:=by rw [ByteArray.toList_eq,<-hl,h48];rfl
    have HP:Hid (yR l=some (sg m (dval d.data.toList))):=by show _=_;unfold yR;rw [if_pos (.inl h48),hdl,hm]
    have hda:d.data.toList.all za=true:=by rw [hdl,h48];rfl
    clear h48 hm hdl hd hl hll hC';go_enter Tryz.func233,Tryz.ntmps233;go_wp2_with fail
    refine (HC.out _).mono ?_;rintro e w1 ⟨rfl,rfl⟩;go_wp2_with fail
    refine (Ks d _ hds hda).mono ?_;rintro e w1 ⟨v,rfl,hU,hb1⟩;obtain ⟨a1,cp1,hv,_⟩:=hU.form;subst hv;go_wp2_with fail
    refine (Kt m _ _ _ hU).mono ?_;rintro e w2 ⟨r,rfl,hB,hb2⟩;have hb3:Below (w.alloc (.cells #[.int .i64 0,.pointer none] 275)).heap.size (w.alloc (.cells #[.int .i64 0,.pointer none] 275)) w2:=hb1.trans (hb2.mono hb1.size);obtain ⟨hc,hfz⟩:=xE hb3;have HB:Hid (BigAt w2 r (sg m (dval d.data.toList))):=hB;have hfin:=hb0.trans (hb3.mono (by simp));have HN:Hid _:=ZG hb3;obtain ⟨y,q,hr⟩:=hB.shape;subst hr;clear hB hb1 hb2 hb3 hU;go_wp2;exact bodyPost_ret (v:=.tuple #[.agg #[.int .i64 y,.pointer q],.int .i64 0]) (by simp [results,Tryz.results233,go_sem,hc]) rfl ⟨_,by rw [HP.out];rfl,by rw [HP.out];exact HB.out.setBox HN.out _ _,(hfin.setCell (by simp) _).setCell (by simp) _⟩
  · have hz:(s.toList==[48])=false:=by rw [ByteArray.toList_eq,<-hl];simpa using h48
    cases hB:xW d.data.toList with
    | false =>
      have HP:Hid (yR l=none):=by
        show _=_;unfold yR;rw [if_neg];rintro (h | h)
        · exact h48 h
        · rw [<-hdl,hB] at h;cases h
      have HS:Hid (∀ w,Calls Tryz.prog 242 #[.string d] w fun e w'=>e=.returned (.bool false)/\w'=w):=fun w=>by rw [<-hB];exact Ku d w (by unfold maxLen;omega)
      clear h48 hm hdl hd hl hll hC' hB;go_enter Tryz.func233,Tryz.ntmps233;go_wp2_with fail
      refine (HC.out _).mono ?_;rintro e w1 ⟨rfl,rfl⟩;go_wp2_with fail
      refine (HS.out _).mono ?_;rintro e w1 ⟨rfl,rfl⟩;go_wp2;exact bodyPost_ret (v:=.tuple #[.agg #[.int .i64 0,.pointer none],.int .i64 10]) (by simp [results,Tryz.results233,go_sem]) rfl ⟨_,by rw [HP.out];rfl,by rw [HP.out];exact .inl ⟨by unfold Fits;decide,rfl⟩,hb0⟩
    | true =>
      have HP:Hid (yR l=some (sg m (dval d.data.toList))):=by show _=_;unfold yR;rw [if_pos (.inr (by rw [<-hdl];exact hB)),hdl,hm]
      have hda:d.data.toList.all za=true:=y4I hB;have HS:Hid (∀ w,Calls Tryz.prog 242 #[.string d] w fun e w'=>e=.returned (.bool true)/\w'=w):=fun w=>by rw [<-hB];exact Ku d w (by unfold maxLen;omega)
      clear h48 hm hdl hd hl hll hC' hB;go_enter Tryz.func233,Tryz.ntmps233;go_wp2_with fail
      refine (HC.out _).mono ?_;rintro e w1 ⟨rfl,rfl⟩;go_wp2_with fail
      refine (HS.out _).mono ?_;rintro e w1 ⟨rfl,rfl⟩;go_wp2_with fail
      refine (Ks d _ hds hda).mono ?_;rintro e w1 ⟨v,rfl,hU,hb1⟩;obtain ⟨a1,cp1,hv,_⟩:=hU.form;subst hv;go_wp2_with fail
      refine (Kt m _ _ _ hU).mono ?_;rintro e w2 ⟨r,rfl,hB,hb2⟩;have hb3:Below (w.alloc (.cells #[.int .i64 0,.pointer none] 275)).heap.size (w.alloc (.cells #[.int .i64 0,.pointer none] 275)) w2:=hb1.trans (hb2.mono hb1.size);obtain ⟨hc,hfz⟩:=xE hb3;have HB:Hid (BigAt w2 r (sg m (dval d.data.toList))):=hB;have hfin:=hb0.trans (hb3.mono (by simp));have HN:Hid _:=ZG hb3;obtain ⟨y,q,hr⟩:=hB.shape;subst hr;clear hB hb1 hb2 hb3 hU;go_wp2;exact bodyPost_ret (v:=.tuple #[.agg #[.int .i64 y,.pointer q],.int .i64 0]) (by simp [results,Tryz.results233,go_sem,hc]) rfl ⟨_,by rw [HP.out];rfl,by rw [HP.out];exact HB.out.setBox HN.out _ _,(hfin.setCell (by simp) _).setCell (by simp) _⟩
end Go.Proofs.YtjgghimjnbjlbaaGreatDoor
