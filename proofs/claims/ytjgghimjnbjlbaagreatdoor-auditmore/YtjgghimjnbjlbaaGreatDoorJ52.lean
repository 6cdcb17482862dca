/-
  Put together: AuAnswer, AuSame, AuKn, AuKm, AuKnow, AnLaw.
-/
import Derived.Test.YtjgghimjnbjlbaaGreatDoorJ48
import Derived.Test.YtjgghimjnbjlbaaGreatDoorAwProg
import Derived.Test.YtjgghimjnbjlbaaGreatDoorJ19
import Derived.BigQuiet
import Derived.Deep.CutRange
namespace Go.Proofs.YtjgghimjnbjlbaaGreatDoor
open Go Go.RowKit Go.Shelf Go.Lib
set_option maxRecDepth 100000
set_option maxHeartbeats 8000000
attribute [local go_sem] Oper.semAt_some
def VdO (d:Int × Int × List Int) (w:World) (e:Ending) (W:World):Prop:=Below w.heap.size w W/\∃ v B,e=.returned (.agg (vdC d.1 d.2.1 0 v))/\w.heap.size<=B/\W.ownsRow B 3 1 v d.2.2.length (d.2.2.map (.int .i64))
def lstD (m:Md.Mo):Int × Int × List Int:=match bst m (allSols m) with
  | none=>(2,0,[])
  | some (b,y)=>(4,b,y)
def fstD (m:Md.Mo):Int × Int × List Int:=match allSols m with
  | []=>(2,0,[])
  | x :: _=>(3,0,x)
def ansD (m:Md.Mo):Int × Int × List Int:=if m.has=true then lstD m else fstD m
theorem own_nil (w:World) (B:Nat):w.ownsRow B 3 1 (.slice none 0 0) 0 []:=⟨rfl,.inl ⟨rfl,rfl⟩⟩
theorem own_sl {w:World} {B:Nat} {v:Value} {n:Nat} {xs:List Value} (h:w.ownsRow B 3 1 v n xs):∃ a c,v=.slice a n c:=by
  rcases h.2 with ⟨rfl,h0⟩ | ⟨g',cap,cur,rfl,_⟩
  · exact ⟨none,0,by rw [h0]⟩
  · exact ⟨_,_,rfl⟩
theorem first_vd (m:Md.Mo) (vv vc vg:Value) (w:World) (h:MoAt w m vv vc vg):Calls Tryz.prog 35 #[moVal m vv vc vg] w (VdO (fstD m) w):=by
  refine (au_first m vv vc vg w h).mono ?_;rintro e W ⟨hb,h | ⟨x,q,v,B,h1,h2,h3,h4⟩⟩
  · refine ⟨hb,.slice none 0 0,w.heap.size,?_,Nat.le_refl _,?_⟩ <;> unfold fstD <;> rw [h.1]
    · exact h.2
    · exact own_nil _ _
  · refine ⟨hb,v,B,?_,h3,?_⟩ <;> unfold fstD <;> rw [h1]
    · exact h2
    · exact h4
theorem least_vd (m:Md.Mo) (vv vc vg:Value) (w:World) (h:MoAt w m vv vc vg):Calls Tryz.prog 34 #[moVal m vv vc vg] w (VdO (lstD m) w):=by
  refine (au_least m vv vc vg w h).mono ?_;rintro e W ⟨hb,h⟩;refine ⟨hb,?_⟩;unfold lstD
  cases hh:bst m (allSols m) with
  | none=>rw [hh] at h;exact ⟨_,w.heap.size,h,Nat.le_refl _,own_nil _ _⟩
  | some o =>
    obtain ⟨b,y⟩:=o;rw [hh] at h;exact h
def AnO (m:Md.Mo) (w:World) (e:Ending) (W:World):Prop:=Below w.heap.size w W/\(((Md.product m 100000).2=false/\e=.returned (.tuple #[.agg #[.int .i64 0,.int .i64 0,.int .i64 0,.int .i64 0,.slice none 0 0],.bool false])) ∨
  ((Md.product m 100000).2=true/\∃ v B,e=.returned (.tuple #[.agg (vdC (ansD m).1 (ansD m).2.1 0 v),.bool true])/\w.heap.size<=B/\W.ownsRow B 3 1 v (ansD m).2.2.length ((ansD m).2.2.map (.int .i64))))
theorem au_answer (m:Md.Mo) (vv vc vg:Value) (w:World) (h:MoAt w m vv vc vg):Calls Tryz.prog 12 #[moVal m vv vc vg] w (AnO m w):=by
  obtain ⟨va,vp,rfl,hvm⟩:=h.v.form;obtain ⟨ca,cp,rfl,hcm⟩:=h.c.form;obtain ⟨ga,gp,rfl,hgm⟩:=h.g.form;obtain ⟨W1,hW1⟩:∃ W,w.alloc (.cells #[.slice va m.vars.length vp,.slice ca m.cons.length cp,.bool m.has,.slice ga m.goal.length gp] 26)=W:=⟨_,rfl⟩;have g1:W1.heap[w.heap.size]?=some (.cells #[.slice va m.vars.length vp,.slice ca m.cons.length cp,.bool m.has,.slice ga m.goal.length gp] 26 (0,0)):=by rw [<-hW1];exact heap_alloc_new w _
  have b1:Below w.heap.size w W1:=by rw [<-hW1];exact (Below.refl _ _).alloc (Nat.le_refl _) _
  have z1:W1.heap.size=w.heap.size+1:=by rw [<-hW1];exact Array.size_push _
  obtain ⟨W2,hW2⟩:∃ W,W1.alloc (.cells #[.int .i64 0,.int .i64 0,.int .i64 0,.int .i64 0,.slice none 0 0] 39)=W:=⟨_,rfl⟩;have g2:W2.heap[w.heap.size+1]?=some (.cells #[.int .i64 0,.int .i64 0,.int .i64 0,.int .i64 0,.slice none 0 0] 39 (0,0)):=by rw [<-hW2,<-z1];exact heap_alloc_new W1 _
  have b2:Below w.heap.size w W2:=by rw [<-hW2];exact b1.alloc (by omega) _
  have z2:W2.heap.size=w.heap.size+2:=by
    have h:W2.heap.size=W1.heap.size+1:=by rw [<-hW2];exact Array.size_push _
    omega
  have m2:W2.heap[w.heap.size]?=some (.cells #[.slice va m.vars.length vp,.slice ca m.cons.length cp,.bool m.has,.slice ga m.goal.length gp] 26 (0,0)):=by rw [<-hW2];exact (Below.heap_alloc _ _ _ (by omega)).trans g1
  have p0:=cell_of m2 0;have p1:=cell_of m2 1;have p2:=cell_of m2 2;have p3:=cell_of m2 3;dsimp at p0 p1 p2 p3;have HW2:Hid (Below w.heap.size w W2):=b2;have HZW:Hid (W2.heap.size=w.heap.size+2):=z2;have HGW:Hid (W2.heap[w.heap.size+1]?=some (.cells #[.int .i64 0,.int .i64 0,.int .i64 0,.int .i64 0,.slice none 0 0] 39 (0,0))):=g2;have HMW:Hid (W2.heap[w.heap.size]?=some (.cells #[.slice va m.vars.length vp,.slice ca m.cons.length cp,.bool m.has,.slice ga m.goal.length gp] 26 (0,0))):=m2;have hC:=countable_any m _ _ _ W2 (h.below b2);have HMo:Hid (∀ W,Below w.heap.size w W->MoAt W m (.slice va m.vars.length vp) (.slice ca m.cons.length cp) (.slice ga m.goal.length gp)):=fun W hb=>h.below hb
  unfold moVal at hC ⊢;clear h g1 b1 g2 b2 m2
  cases hs:(Md.product m 100000).2 with
  | false =>
    rw [hs] at hC;go_enter Tryz.func12,Tryz.ntmps12;go_wp2_with (go_at_call 28;refine hC.mono ?_;rintro e w2 ⟨rfl,hb2⟩;have HB2:Hid (Below W2.heap.size W2 w2):=hb2;have HR2:Hid (w2.heap[w.heap.size+1]?=some (.cells #[.int .i64 0,.int .i64 0,.int .i64 0,.int .i64 0,.slice none 0 0] 39 (0,0))):=(hb2.block _ (by have:=HZW.out;omega)).trans HGW.out;have d0:=cell_of HR2.out 0;have d1:=cell_of HR2.out 1;have d2:=cell_of HR2.out 2;have d3:=cell_of HR2.out 3;have d4:=cell_of HR2.out 4;have e0:=frozen_of HR2.out 0;have e1:=frozen_of HR2.out 1;have e2:=frozen_of HR2.out 2;have e3:=frozen_of HR2.out 3;have e4:=frozen_of HR2.out 4;dsimp at d0 d1 d2 d3 d4;clear hb2);have z2:=HZW.out;have hg5:=set5_at HR2.out (.int .i64 0) (.int .i64 0) (.int .i64 0) (.int .i64 0) (.slice none 0 0)
    have hb5:=set5_bl (HW2.out.trans (HB2.out.mono (by omega))) (w.heap.size+1) (by omega) (.int .i64 0) (.int .i64 0) (.int .i64 0) (.int .i64 0) (.slice none 0 0);exact bodyPost_ret (res_wt Tryz.results12 _ _ (w.heap.size+1) 39 #[.int .i64 0,.int .i64 0,.int .i64 0,.int .i64 0,.slice none 0 0] (0,0) _ rfl hg5 Tryz.underlying39 rfl infV) rfl ⟨hb5,.inl ⟨hs,rfl⟩⟩
  | true =>
    rw [hs] at hC;have HS:Hid ((Md.product m 100000).2=true):=hs;clear hs
    cases hh:m.has with
    | true =>
      have hD:ansD m=lstD m:=by unfold ansD;rw [hh];rfl
      have hL:∀ W,Below w.heap.size w W->Calls Tryz.prog 34 #[.agg #[.slice va m.vars.length vp,.slice ca m.cons.length cp,.bool true,.slice ga m.goal.length gp]] W (VdO (lstD m) W):=fun W hb=>by
        have:=least_vd m _ _ _ W (HMo.out W hb);unfold moVal at this
        rwa [hh] at this
      obtain ⟨⟨k,wo,y⟩,hd⟩:∃ d,lstD m=d:=⟨_,rfl⟩;have HD:Hid (ansD m=(k,wo,y)):=hD.trans hd;rw [hd] at hL;have HL:Hid (∀ W,Below w.heap.size w W->Calls Tryz.prog 34 #[.agg #[.slice va m.vars.length vp,.slice ca m.cons.length cp,.bool true,.slice ga m.goal.length gp]] W (VdO (k,wo,y) W)):=hL;rw [hh] at hC p2 HMW hW1;clear hD hd hL HMo hh;go_enter Tryz.func12,Tryz.ntmps12
      go_wp2_with (first | (go_at_call 28;refine hC.mono ?_;rintro e w2 ⟨rfl,hb2⟩;have HB2:Hid (Below W2.heap.size W2 w2):=hb2;have HR2:Hid (w2.heap[w.heap.size+1]?=some (.cells #[.int .i64 0,.int .i64 0,.int .i64 0,.int .i64 0,.slice none 0 0] 39 (0,0))):=(hb2.block _ (by have:=HZW.out;omega)).trans HGW.out;have HZ2:Hid (w.heap.size+2<=w2.heap.size):=(by have:=HZW.out;have:=hb2.size;show _<=_;omega);have HM2:=(hb2.block w.heap.size (by have:=HZW.out;omega)).trans HMW.out;have q0:=cell_of HM2 0;have q1:=cell_of HM2 1;have q2:=cell_of HM2 2;have q3:=cell_of HM2 3;dsimp at q0 q1 q2 q3;have hLL:=HL.out w2 (HW2.out.trans (hb2.mono (by have:=HZW.out;omega)));clear hb2 HM2) | (go_at_call 34;refine (hLL).mono ?_;rintro e w3 ⟨hb3,v,B,rfl,hB,how⟩;obtain ⟨ya,yc,rfl⟩:=own_sl how;have HB3:Hid (Below w2.heap.size w2 w3):=hb3;have HBB:Hid (w2.heap.size<=B):=hB;have HOw:Hid (w3.ownsRow B 3 1 (.slice ya y.length yc) y.length (y.map (.int .i64))):=how;have HR3:Hid (w3.heap[w.heap.size+1]?=some (.cells #[.int .i64 0,.int .i64 0,.int .i64 0,.int .i64 0,.slice none 0 0] 39 (0,0))):=(hb3.block _ (by have:=HZ2.out;omega)).trans HR2.out;have d0:=cell_of HR3.out 0;have d1:=cell_of HR3.out 1;have d2:=cell_of HR3.out 2;have d3:=cell_of HR3.out 3;have d4:=cell_of HR3.out 4;have e0:=frozen_of HR3.out 0;have e1:=frozen_of HR3.out 1;have e2:=frozen_of HR3.out 2;have e3:=frozen_of HR3.out 3;have e4:=frozen_of HR3.out 4;dsimp at d0 d1 d2 d3 d4;clear hb3 hB how;unfold vdC))
      have z2:=HZW.out;have z3:=HZ2.out;have z4:=HBB.out;have hg5:=set5_at HR3.out (.int .i64 k) (.int .i64 0) (.int .i64 wo) (.int .i64 0) (.slice ya y.length yc);have hb5:=set5_bl ((HW2.out.trans (HB2.out.mono (by omega))).trans (HB3.out.mono (by omega))) (w.heap.size+1) (by omega) (.int .i64 k) (.int .i64 0) (.int .i64 wo) (.int .i64 0) (.slice ya y.length yc);have ho5:=own_keep HOw.out fun g hg=>set5_off w3 (w.heap.size+1) (.int .i64 k) (.int .i64 0) (.int .i64 wo) (.int .i64 0) (.slice ya y.length yc) g (by have:=(own_ge HOw.out hg).1;omega)
      refine bodyPost_ret (res_wt Tryz.results12 _ _ (w.heap.size+1) 39 (vdC k wo 0 (.slice ya y.length yc)) (0,0) _ rfl hg5 Tryz.underlying39 rfl infV) rfl ⟨hb5,.inr ⟨HS.out,?_⟩⟩;rw [HD.out];exact ⟨_,B,rfl,by omega,ho5⟩
    | false =>
      have hD:ansD m=fstD m:=by unfold ansD;rw [hh];rfl
      have hL:∀ W,Below w.heap.size w W->Calls Tryz.prog 35 #[.agg #[.slice va m.vars.length vp,.slice ca m.cons.length cp,.bool false,.slice ga m.goal.length gp]] W (VdO (fstD m) W):=fun W hb=>by
        have:=first_vd m _ _ _ W (HMo.out W hb);unfold moVal at this
        rwa [hh] at this
      obtain ⟨⟨k,wo,y⟩,hd⟩:∃ d,fstD m=d:=⟨_,rfl⟩;have HD:Hid (ansD m=(k,wo,y)):=hD.trans hd;rw [hd] at hL;have HL:Hid (∀ W,Below w.heap.size w W->Calls Tryz.prog 35 #[.agg #[.slice va m.vars.length vp,.slice ca m.cons.length cp,.bool false,.slice ga m.goal.length gp]] W (VdO (k,wo,y) W)):=hL;rw [hh] at hC p2 HMW hW1;clear hD hd hL HMo hh;go_enter Tryz.func12,Tryz.ntmps12
      go_wp2_with (first | (go_at_call 28;refine hC.mono ?_;rintro e w2 ⟨rfl,hb2⟩;have HB2:Hid (Below W2.heap.size W2 w2):=hb2;have HR2:Hid (w2.heap[w.heap.size+1]?=some (.cells #[.int .i64 0,.int .i64 0,.int .i64 0,.int .i64 0,.slice none 0 0] 39 (0,0))):=(hb2.block _ (by have:=HZW.out;omega)).trans HGW.out;have HZ2:Hid (w.heap.size+2<=w2.heap.size):=(by have:=HZW.out;have:=hb2.size;show _<=_;omega);have HM2:=(hb2.block w.heap.size (by have:=HZW.out;omega)).trans HMW.out;have q0:=cell_of HM2 0;have q1:=cell_of HM2 1;have q2:=cell_of HM2 2;have q3:=cell_of HM2 3;dsimp at q0 q1 q2 q3;have hLL:=HL.out w2 (HW2.out.trans (hb2.mono (by have:=HZW.out;omega)));clear hb2 HM2) | (go_at_call 35;refine (hLL).mono ?_;rintro e w3 ⟨hb3,v,B,rfl,hB,how⟩;obtain ⟨ya,yc,rfl⟩:=own_sl how;have HB3:Hid (Below w2.heap.size w2 w3):=hb3;have HBB:Hid (w2.heap.size<=B):=hB;have HOw:Hid (w3.ownsRow B 3 1 (.slice ya y.length yc) y.length (y.map (.int .i64))):=how;have HR3:Hid (w3.heap[w.heap.size+1]?=some (.cells #[.int .i64 0,.int .i64 0,.int .i64 0,.int .i64 0,.slice none 0 0] 39 (0,0))):=(hb3.block _ (by have:=HZ2.out;omega)).trans HR2.out;have d0:=cell_of HR3.out 0;have d1:=cell_of HR3.out 1;have d2:=cell_of HR3.out 2;have d3:=cell_of HR3.out 3;have d4:=cell_of HR3.out 4;have e0:=frozen_of HR3.out 0;have e1:=frozen_of HR3.out 1;have e2:=frozen_of HR3.out 2;have e3:=frozen_of HR3.out 3;have e4:=frozen_of HR3.out 4;dsimp at d0 d1 d2 d3 d4;clear hb3 hB how;unfold vdC))
      have z2:=HZW.out;have z3:=HZ2.out;have z4:=HBB.out;have hg5:=set5_at HR3.out (.int .i64 k) (.int .i64 0) (.int .i64 wo) (.int .i64 0) (.slice ya y.length yc);have hb5:=set5_bl ((HW2.out.trans (HB2.out.mono (by omega))).trans (HB3.out.mono (by omega))) (w.heap.size+1) (by omega) (.int .i64 k) (.int .i64 0) (.int .i64 wo) (.int .i64 0) (.slice ya y.length yc);have ho5:=own_keep HOw.out fun g hg=>set5_off w3 (w.heap.size+1) (.int .i64 k) (.int .i64 0) (.int .i64 wo) (.int .i64 0) (.slice ya y.length yc) g (by have:=(own_ge HOw.out hg).1;omega)
      refine bodyPost_ret (res_wt Tryz.results12 _ _ (w.heap.size+1) 39 (vdC k wo 0 (.slice ya y.length yc)) (0,0) _ rfl hg5 Tryz.underlying39 rfl infV) rfl ⟨hb5,.inr ⟨HS.out,?_⟩⟩;rw [HD.out];exact ⟨_,B,rfl,by omega,ho5⟩
def AlO (m:Md.Mo) (w:World) (e:Ending) (W:World):Prop:=Below w.heap.size w W/\(((Md.product m 100000).2=false/\e=.returned (.tuple #[.agg #[.int .i64 0,.int .i64 0,.int .i64 0,.int .i64 0,.slice none 0 0],.bool false])) ∨
  ((Md.product m 100000).2=true/\e=.returned (.tuple #[.agg (vdC 6 0 ((allSols m).length:Int) (.slice none 0 0)),.bool true])))
theorem au_all (m:Md.Mo) (vv vc vg:Value) (w:World) (h:MoAt w m vv vc vg):Calls Tryz.prog 13 #[moVal m vv vc vg] w (AlO m w):=by
  obtain ⟨va,vp,rfl,hvm⟩:=h.v.form;obtain ⟨ca,cp,rfl,hcm⟩:=h.c.form;obtain ⟨ga,gp,rfl,hgm⟩:=h.g.form;obtain ⟨W1,hW1⟩:∃ W,w.alloc (.cells #[.slice va m.vars.length vp,.slice ca m.cons.length cp,.bool m.has,.slice ga m.goal.length gp] 26)=W:=⟨_,rfl⟩;have g1:W1.heap[w.heap.size]?=some (.cells #[.slice va m.vars.length vp,.slice ca m.cons.length cp,.bool m.has,.slice ga m.goal.length gp] 26 (0,0)):=by rw [<-hW1];exact heap_alloc_new w _
  have b1:Below w.heap.size w W1:=by rw [<-hW1];exact (Below.refl _ _).alloc (Nat.le_refl _) _
  have z1:W1.heap.size=w.heap.size+1:=by rw [<-hW1];exact Array.size_push _
  obtain ⟨W2,hW2⟩:∃ W,W1.alloc (.cells #[.int .i64 0,.int .i64 0,.int .i64 0,.int .i64 0,.slice none 0 0] 39)=W:=⟨_,rfl⟩;have g2:W2.heap[w.heap.size+1]?=some (.cells #[.int .i64 0,.int .i64 0,.int .i64 0,.int .i64 0,.slice none 0 0] 39 (0,0)):=by rw [<-hW2,<-z1];exact heap_alloc_new W1 _
  have b2:Below w.heap.size w W2:=by rw [<-hW2];exact b1.alloc (by omega) _
  have z2:W2.heap.size=w.heap.size+2:=by
    have h:W2.heap.size=W1.heap.size+1:=by rw [<-hW2];exact Array.size_push _
    omega
  have m2:W2.heap[w.heap.size]?=some (.cells #[.slice va m.vars.length vp,.slice ca m.cons.length cp,.bool m.has,.slice ga m.goal.length gp] 26 (0,0)):=by rw [<-hW2];exact (Below.heap_alloc _ _ _ (by omega)).trans g1
  have p0:=cell_of m2 0;have p1:=cell_of m2 1;have p2:=cell_of m2 2;have p3:=cell_of m2 3;dsimp at p0 p1 p2 p3;have HW2:Hid (Below w.heap.size w W2):=b2;have HZW:Hid (W2.heap.size=w.heap.size+2):=z2;have HGW:Hid (W2.heap[w.heap.size+1]?=some (.cells #[.int .i64 0,.int .i64 0,.int .i64 0,.int .i64 0,.slice none 0 0] 39 (0,0))):=g2;have HMW:Hid (W2.heap[w.heap.size]?=some (.cells #[.slice va m.vars.length vp,.slice ca m.cons.length cp,.bool m.has,.slice ga m.goal.length gp] 26 (0,0))):=m2;have hC:=au_count m _ _ _ W2 (h.below b2);unfold moVal at hC ⊢;clear h g1 b1 g2 b2 m2;obtain ⟨n,hn⟩:∃ n:Int,((allSols m).length:Int)=n:=⟨_,rfl⟩;rw [hn] at hC;unfold AlO;rw [hn];clear hn
  cases hs:(Md.product m 100000).2 with
  | false =>
    rw [hs] at hC;go_enter Tryz.func13,Tryz.ntmps13;go_wp2_with (go_at_call 11;refine hC.mono ?_;rintro e w2 ⟨rfl,hb2⟩;have HB2:Hid (Below W2.heap.size W2 w2):=hb2;have HR2:Hid (w2.heap[w.heap.size+1]?=some (.cells #[.int .i64 0,.int .i64 0,.int .i64 0,.int .i64 0,.slice none 0 0] 39 (0,0))):=(hb2.block _ (by have:=HZW.out;omega)).trans HGW.out;have d0:=cell_of HR2.out 0;have d1:=cell_of HR2.out 1;have d2:=cell_of HR2.out 2;have d3:=cell_of HR2.out 3;have d4:=cell_of HR2.out 4;have e0:=frozen_of HR2.out 0;have e1:=frozen_of HR2.out 1;have e2:=frozen_of HR2.out 2;have e3:=frozen_of HR2.out 3;have e4:=frozen_of HR2.out 4;dsimp at d0 d1 d2 d3 d4;clear hb2);have z2:=HZW.out;have hg5:=set5_at HR2.out (.int .i64 0) (.int .i64 0) (.int .i64 0) (.int .i64 0) (.slice none 0 0)
    have hb5:=set5_bl (HW2.out.trans (HB2.out.mono (by omega))) (w.heap.size+1) (by omega) (.int .i64 0) (.int .i64 0) (.int .i64 0) (.int .i64 0) (.slice none 0 0);exact bodyPost_ret (res_wt Tryz.results13 _ _ (w.heap.size+1) 39 #[.int .i64 0,.int .i64 0,.int .i64 0,.int .i64 0,.slice none 0 0] (0,0) _ rfl hg5 Tryz.underlying39 rfl infV) rfl ⟨hb5,.inl ⟨trivial,rfl⟩⟩
  | true =>
    rw [hs] at hC;go_enter Tryz.func13,Tryz.ntmps13;go_wp2_with (go_at_call 11;refine hC.mono ?_;rintro e w2 ⟨rfl,hb2⟩;have HB2:Hid (Below W2.heap.size W2 w2):=hb2;have HR2:Hid (w2.heap[w.heap.size+1]?=some (.cells #[.int .i64 0,.int .i64 0,.int .i64 0,.int .i64 0,.slice none 0 0] 39 (0,0))):=(hb2.block _ (by have:=HZW.out;omega)).trans HGW.out;have d0:=cell_of HR2.out 0;have d1:=cell_of HR2.out 1;have d2:=cell_of HR2.out 2;have d3:=cell_of HR2.out 3;have d4:=cell_of HR2.out 4;have e0:=frozen_of HR2.out 0;have e1:=frozen_of HR2.out 1;have e2:=frozen_of HR2.out 2;have e3:=frozen_of HR2.out 3;have e4:=frozen_of HR2.out 4;dsimp at d0 d1 d2 d3 d4;clear hb2);have z2:=HZW.out;have hg5:=set5_at HR2.out (.int .i64 6) (.int .i64 0) (.int .i64 0) (.int .i64 n) (.slice none 0 0)
    have hb5:=set5_bl (HW2.out.trans (HB2.out.mono (by omega))) (w.heap.size+1) (by omega) (.int .i64 6) (.int .i64 0) (.int .i64 0) (.int .i64 n) (.slice none 0 0);exact bodyPost_ret (res_wt Tryz.results13 _ _ (w.heap.size+1) 39 #[.int .i64 6,.int .i64 0,.int .i64 0,.int .i64 n,.slice none 0 0] (0,0) _ rfl hg5 Tryz.underlying39 rfl infV) rfl ⟨hb5,.inr ⟨trivial,rfl⟩⟩
end Go.Proofs.YtjgghimjnbjlbaaGreatDoor

namespace Go.Proofs.YtjgghimjnbjlbaaGreatDoor
open Go Go.RowKit Go.Shelf Go.Lib
set_option maxRecDepth 10000
set_option maxHeartbeats 8000000
attribute [local go_sem] Oper.semAt_some
theorem same_ints (v v':Value) (c:List Int) (w:World) (h:MInts w v c) (h':MInts w v' c):Calls Tryz.prog 18 #[v,v'] w fun e w'=>e=.returned (.bool true)/\Below w.heap.size w w':=by
  obtain ⟨a,cap,rfl,hl,hc⟩:=h;obtain ⟨a',cap',rfl,_,hc'⟩:=h';unfold maxLen at hl;have HC:Hid (∀ w',Below w.heap.size w w'->∀ j (hj:j<c.length),∃ g o,a=some ⟨g,o,none⟩/\w'.cell? ⟨g,o+j,none⟩=some (.int .i64 c[j])):=fun w' hb j hj=>by
    obtain ⟨g,o,e1,e2,e3⟩:=hc (by omega);exact ⟨g,o,e1,(hb.cell (p:=⟨g,o+j,none⟩) e2).trans (e3 j hj)⟩
  have HC':Hid (∀ w',Below w.heap.size w w'->∀ j (hj:j<c.length),∃ g o,a'=some ⟨g,o,none⟩/\w'.cell? ⟨g,o+j,none⟩=some (.int .i64 c[j])):=fun w' hb j hj=>by
    obtain ⟨g,o,e1,e2,e3⟩:=hc' (by omega);exact ⟨g,o,e1,(hb.cell (p:=⟨g,o+j,none⟩) e2).trans (e3 j hj)⟩
  clear hc hc';go_enter Tryz.func18,Tryz.ntmps18;go_wp2_with fail
  go_loopw [5] (fun iv wr=>∃ k:Nat,iv=.int .i64 (k:Int)/\k<=c.length/\Hid (Below w.heap.size w wr)) (fun iv _=>c.length-(RowKit.intOf iv).toNat)
  case atStart=>exact ⟨0,rfl,Nat.zero_le _,Below.refl _ _⟩
  case round=>
    obtain ⟨k,rfl,hk,HBr⟩:=hrel
    by_cases hkn:k<c.length
    · have hkI:(k:Int)<(c.length:Int):=by omega
      obtain ⟨g,o,rfl,x0⟩:=HC.out wr HBr.out k hkn;obtain ⟨g',o',rfl,y0⟩:=HC'.out wr HBr.out k hkn;obtain ⟨y,hy⟩:∃ y,c[k]=y:=⟨_,rfl⟩;rw [hy] at x0 y0;have hyy:(y==y)=true:=by simp
      clear hy;go_wp2_with fail
      go_region
      all_goals
        go_wp2_with fail
        go_roundw
        case rel=>exact ⟨k+1,by go_num,hkn,HBr.out.drew⟩
        case measure=>simp [RowKit.intOf];omega
    · have hke:k=c.length:=by omega
      subst hke;have hkI:¬ (c.length:Int)<(c.length:Int):=by omega
      go_wp2_with fail
      go_ret;exact ⟨rfl,HBr.out⟩
theorem same_vd (k wo n:Int) (v v':Value) (c:List Int) (w:World) (h:MInts w v c) (h':MInts w v' c):Calls Tryz.prog 14 #[.agg (vdC k wo n v),.agg (vdC k wo n v')] w fun e w'=>e=.returned (.bool true)/\Below w.heap.size w w':=by
  have HI:Hid (∀ w',Below w.heap.size w w'->Calls Tryz.prog 18 #[v,v'] w' fun e w2=>e=.returned (.bool true)/\Below w'.heap.size w' w2):=fun w' hb=>same_ints v v' c w' (h.below hb) (h'.below hb)
  obtain ⟨a,cap,rfl,_,_⟩:=h;obtain ⟨a',cap',rfl,_,_⟩:=h';obtain ⟨l,hl⟩:∃ l,c.length=l:=⟨_,rfl⟩;rw [hl] at HI ⊢;obtain ⟨W1,hW1⟩:∃ W,w.alloc (.cells (vdC k wo n (.slice a l cap)) 39)=W:=⟨_,rfl⟩;have g1:W1.heap[w.heap.size]?=some (.cells (vdC k wo n (.slice a l cap)) 39 (0,0)):=by rw [<-hW1];exact heap_alloc_new w _
  have b1:Below w.heap.size w W1:=by rw [<-hW1];exact (Below.refl _ _).alloc (Nat.le_refl _) _
  have z1:W1.heap.size=w.heap.size+1:=by rw [<-hW1];exact Array.size_push _
  obtain ⟨W2,hW2⟩:∃ W,W1.alloc (.cells (vdC k wo n (.slice a' l cap')) 39)=W:=⟨_,rfl⟩;have g2:W2.heap[w.heap.size+1]?=some (.cells (vdC k wo n (.slice a' l cap')) 39 (0,0)):=by rw [<-hW2,<-z1];exact heap_alloc_new W1 _
  have b2:Below w.heap.size w W2:=by rw [<-hW2];exact b1.alloc (by omega) _
  have z2:W2.heap.size=w.heap.size+2:=by
    have h:W2.heap.size=W1.heap.size+1:=by rw [<-hW2];exact Array.size_push _
    omega
  have m2:W2.heap[w.heap.size]?=some (.cells (vdC k wo n (.slice a l cap)) 39 (0,0)):=by rw [<-hW2];exact (Below.heap_alloc _ _ _ (by omega)).trans g1
  unfold vdC at g1 g2 m2 hW1 hW2 ⊢;have p0:=cell_of m2 0;have p1:=cell_of m2 1;have p2:=cell_of m2 2;have p3:=cell_of m2 3;have p4:=cell_of m2 4;have q0:=cell_of g2 0;have q1:=cell_of g2 1;have q2:=cell_of g2 2;have q3:=cell_of g2 3;have q4:=cell_of g2 4;dsimp at p0 p1 p2 p3 p4 q0 q1 q2 q3 q4;have hI:=HI.out W2 b2;have HB2:Hid (Below w.heap.size w W2):=b2;have hk1:(k==k)=true:=by simp
  have hk2:(wo==wo)=true:=by simp
  have hk3:(n==n)=true:=by simp
  clear g1 g2 m2 b1 b2 hl;go_enter Tryz.func14,Tryz.ntmps14;go_wp2_with (go_at_call 18;refine hI.mono ?_;rintro e w3 ⟨rfl,hb3⟩;have HB3:Hid (Below W2.heap.size W2 w3):=hb3;clear hb3);go_ret;exact ⟨rfl,HB2.out.trans (HB3.out.mono (by omega))⟩
end Go.Proofs.YtjgghimjnbjlbaaGreatDoor

namespace Go.Proofs.YtjgghimjnbjlbaaGreatDoor
open Go Go.RowKit Go.Shelf Go.Lib
set_option maxRecDepth 100000
set_option maxHeartbeats 8000000
def kmA:Md.Mo:={ vars:=[⟨⟨#[120]⟩,0,2⟩,⟨⟨#[121]⟩,0,2⟩],cons:=[⟨3,0,[],0,0,0,0,[0,1],[],[]⟩],has:=false,goal:=[] }
def kmB:Md.Mo:={ kmA with has:=true,goal:=[(-1,0)] }
theorem km_small:(Md.product kmA 100000).2=true:=by kernel_rfl
theorem km_smallB:(Md.product kmB 100000).2=true:=by kernel_rfl
theorem km_len:(allSols kmA).length=6:=by kernel_rfl
theorem km_lenB:(allSols kmB).length=6:=by kernel_rfl
theorem km_ansA:ansD kmA=(3,0,[0,1]):=by kernel_rfl
theorem km_ansB:ansD kmB=(4,-2,[2,0]):=by kernel_rfl
def ktA:ByteArray:=⟨#[42,32,97,10,112,111,108,32,49,10,114,117,112,32,62,61,32,48,32,59,10,100,101,108,32,105,100,32,51,32,52,10]⟩
def ktB:ByteArray:=⟨#[42,32,97,10,110,111,116,104,105,110,103,10]⟩
theorem kt_good:(lns ktA.data.toList []).all (fun x=>er x==0)=true:=by kernel_rfl
theorem kt_bad:(lns ktB.data.toList []).all (fun x=>er x==0)=false:=by kernel_rfl
theorem kt_wt:wtS (lns ktA.data.toList []) 32=#[.int .i64 4,.int .i64 32,.int .i64 2,.int .i64 2,.int .i64 2,.int .i64 10,.int .i64 0,.int .i64 0,.int .i64 0,.int .i64 1,.int .i64 1,.int .i64 0,.int .i64 1,.int .i64 1,.int .i64 0,.int .i64 0,.int .i64 0,.int .i64 0,.int .i64 0]:=by kernel_rfl
end Go.Proofs.YtjgghimjnbjlbaaGreatDoor

namespace Go.Proofs.YtjgghimjnbjlbaaGreatDoor
open Go Go.RowKit Go.Shelf Go.Lib
attribute [local go_sem] Oper.semAt_some
def Keeps (w:World) (L:List (Nat × Obj)) (W:World):Prop:=Below w.heap.size w W/\∀ p∈L,W.heap[p.1]?=some p.2
theorem Keeps.step {w W W':World} {L:List (Nat × Obj)} (h:Keeps w L W) (hb:Below W.heap.size W W'):Keeps w L W':=
  ⟨bl_next h.1 hb,fun p hp=>(hb.block _ (Array.getElem?_eq_some_iff.1 (h.2 p hp)).1).trans (h.2 p hp)⟩
theorem Keeps.alloc {w W:World} {L:List (Nat × Obj)} (h:Keeps w L W) (o:Obj):Keeps w ((W.heap.size,o) :: L) (W.alloc o):=by
  have hb:Below W.heap.size W (W.alloc o):=(Below.refl _ _).alloc (Nat.le_refl _) _;have h2:=h.step hb;refine ⟨h2.1,fun p hp=>?_⟩;rcases List.mem_cons.1 hp with rfl | hp
  · exact heap_alloc_new W o
  · exact h2.2 p hp
theorem Keeps.get {w W:World} {L:List (Nat × Obj)} (h:Keeps w L W) (i:Nat) {p:Nat × Obj} (hi:L[i]?=some p):W.heap[p.1]?=some p.2:=h.2 p (List.mem_of_getElem? hi)
theorem at_vars {W:World} {g:Nat} (h:W.heap[g]?=some (.cells #[.string ⟨#[120]⟩,.int .i64 0,.int .i64 2,.string ⟨#[121]⟩,.int .i64 0,.int .i64 2] 49 (0,0))):VarsAt W (.slice (some ⟨g,0,none⟩) 2 2) kmA.vars:=by
  refine ⟨_,2,rfl,by decide,?_,fun _=>⟨g,0,rfl,(Array.getElem?_eq_some_iff.1 h).1,?_⟩⟩
  · intro x hx
    simp only [kmA,List.mem_cons,List.not_mem_nil,or_false] at hx
    rcases hx with rfl | rfl <;> decide
  · intro j hj
    have hj:j<2:=hj;rcases j with _ | _ | j
    · exact ⟨cell_of h 0,cell_of h 1,cell_of h 2⟩
    · exact ⟨cell_of h 3,cell_of h 4,cell_of h 5⟩
    · omega
theorem at_con {W:World} {g x:Nat} (h:W.heap[g]?=some (.cells #[.int .i64 3,.int .i64 0,.slice none 0 0,.int .i64 0,.int .i64 0,.int .i64 0,.int .i64 0,.slice (some ⟨x,0,none⟩) 2 2,.slice none 0 0,.slice none 0 0] 51 (0,0))) (hx:W.heap[x]?=some (.cells #[.int .i64 0,.int .i64 1] 3 (0,0))):ConsAt W (.slice (some ⟨g,0,none⟩) 1 1) kmA.cons:=by
  refine ⟨_,1,rfl,by decide,fun _=>⟨g,0,rfl,(Array.getElem?_eq_some_iff.1 h).1,?_⟩⟩;intro j hj;have hj:j<1:=hj;obtain rfl:j=0:=by omega
  refine ⟨.slice none 0 0,.slice (some ⟨x,0,none⟩) 2 2,.slice none 0 0,.slice none 0 0,⟨?_,?_,?_,?_,?_⟩,cell_of h 0,cell_of h 1,cell_of h 2,cell_of h 3,cell_of h 4,cell_of h 5,cell_of h 6,cell_of h 7,cell_of h 8,cell_of h 9⟩
  · exact ⟨none,0,rfl,Nat.zero_le _,fun h=>absurd h (Nat.lt_irrefl 0)⟩
  · refine ⟨_,2,rfl,(show (2:Nat)<=maxLen by decide),fun _=>⟨x,0,rfl,(Array.getElem?_eq_some_iff.1 hx).1,?_⟩⟩
    intro j hj;have hj:j<2:=hj;rcases j with _ | _ | j
    · exact cell_of hx 0
    · exact cell_of hx 1
    · omega
  · rintro a n cp ⟨⟩
    decide
  · exact ⟨none,0,rfl,Nat.zero_le _,fun h=>absurd h (Nat.lt_irrefl 0)⟩
  · exact ⟨none,0,rfl,Nat.zero_le _,fun h=>absurd h (Nat.lt_irrefl 0)⟩
theorem at_goal {W:World} {g:Nat} (h:W.heap[g]?=some (.cells #[.int .i64 (-1),.int .i64 0] 67 (0,0))):TermsAt W (.slice (some ⟨g,0,none⟩) 1 1) kmB.goal:=by
  refine ⟨_,1,rfl,by decide,fun _=>⟨g,0,rfl,(Array.getElem?_eq_some_iff.1 h).1,?_⟩⟩;intro j hj;have hj:j<1:=hj;obtain rfl:j=0:=by omega
  exact ⟨cell_of h 0,cell_of h 1⟩
theorem at_ints {W:World} {g:Nat} (a b:Int) (h:W.heap[g]?=some (.cells #[.int .i64 a,.int .i64 b] 3 (0,0))):MInts W (.slice (some ⟨g,0,none⟩) 2 2) [a,b]:=by
  refine ⟨_,2,rfl,(show (2:Nat)<=maxLen by decide),fun _=>⟨g,0,rfl,(Array.getElem?_eq_some_iff.1 h).1,?_⟩⟩;intro j hj;have hj:j<2:=hj;rcases j with _ | _ | j
  · exact cell_of h 0
  · exact cell_of h 1
  · omega
theorem nil_terms (W:World):TermsAt W (.slice none 0 0) []:=⟨none,0,rfl,Nat.zero_le _,fun h=>absurd h (Nat.lt_irrefl 0)⟩
theorem nil_ints (W:World):MInts W (.slice none 0 0) []:=⟨none,0,rfl,Nat.zero_le _,fun h=>absurd h (Nat.lt_irrefl 0)⟩
theorem cap22 (g:Nat):∀ a n cp,(Value.slice (some ⟨g,0,none⟩) 2 2)=.slice a n cp->n<=cp:=by rintro a n cp ⟨⟩;exact Nat.le_refl _
theorem count_km (W:World) (g c x:Nat) (h1:W.heap[g]?=some (.cells #[.string ⟨#[120]⟩,.int .i64 0,.int .i64 2,.string ⟨#[121]⟩,.int .i64 0,.int .i64 2] 49 (0,0))) (h2:W.heap[c]?=some (.cells #[.int .i64 3,.int .i64 0,.slice none 0 0,.int .i64 0,.int .i64 0,.int .i64 0,.int .i64 0,.slice (some ⟨x,0,none⟩) 2 2,.slice none 0 0,.slice none 0 0] 51 (0,0))) (h3:W.heap[x]?=some (.cells #[.int .i64 0,.int .i64 1] 3 (0,0))) :
    Calls Tryz.prog 11 #[.agg #[.slice (some ⟨g,0,none⟩) 2 2,.slice (some ⟨c,0,none⟩) 1 1,.bool false,.slice none 0 0]] W (fun e w'=>e=.returned (.tuple #[.int .i64 6,.bool true])/\Below W.heap.size W w') /\
    Calls Tryz.prog 12 #[.agg #[.slice (some ⟨g,0,none⟩) 2 2,.slice (some ⟨c,0,none⟩) 1 1,.bool false,.slice none 0 0]] W (fun e w'=>∃ a cp B,e=.returned (.tuple #[.agg #[.int .i64 3,.int .i64 0,.int .i64 0,.int .i64 0,.slice a 2 cp],.bool true])/\Below W.heap.size W w'/\w'.ownsRow B 3 1 (.slice a 2 cp) 2 [.int .i64 0,.int .i64 1]):=by
  have hM:MoAt W kmA (.slice (some ⟨g,0,none⟩) 2 2) (.slice (some ⟨c,0,none⟩) 1 1) (.slice none 0 0):=⟨at_vars h1,cap22 g,at_con h2 h3,nil_terms W⟩;refine ⟨?_,?_⟩
  · have:=au_count kmA _ _ _ W hM
    rw [km_len,km_small] at this;exact this
  · refine Calls.mono (au_answer kmA _ _ _ W hM) ?_
    rintro e w' ⟨hb,⟨h,_⟩ | ⟨_,v,B,he,_,how⟩⟩
    · rw [km_small] at h;cases h
    · rw [km_ansA] at he how
      obtain ⟨a,cp,rfl⟩:=own_sl how;exact ⟨a,cp,B,he,hb,how⟩
theorem goal_km (W:World) (g c x t:Nat) (h1:W.heap[g]?=some (.cells #[.string ⟨#[120]⟩,.int .i64 0,.int .i64 2,.string ⟨#[121]⟩,.int .i64 0,.int .i64 2] 49 (0,0))) (h2:W.heap[c]?=some (.cells #[.int .i64 3,.int .i64 0,.slice none 0 0,.int .i64 0,.int .i64 0,.int .i64 0,.int .i64 0,.slice (some ⟨x,0,none⟩) 2 2,.slice none 0 0,.slice none 0 0] 51 (0,0))) (h3:W.heap[x]?=some (.cells #[.int .i64 0,.int .i64 1] 3 (0,0))) (h4:W.heap[t]?=some (.cells #[.int .i64 (-1),.int .i64 0] 67 (0,0))) :
    Calls Tryz.prog 13 #[.agg #[.slice (some ⟨g,0,none⟩) 2 2,.slice (some ⟨c,0,none⟩) 1 1,.bool true,.slice (some ⟨t,0,none⟩) 1 1]] W (fun e w'=>e=.returned (.tuple #[.agg #[.int .i64 6,.int .i64 0,.int .i64 0,.int .i64 6,.slice none 0 0],.bool true])/\Below W.heap.size W w') /\
    Calls Tryz.prog 12 #[.agg #[.slice (some ⟨g,0,none⟩) 2 2,.slice (some ⟨c,0,none⟩) 1 1,.bool true,.slice (some ⟨t,0,none⟩) 1 1]] W (fun e w'=>∃ a cp B,e=.returned (.tuple #[.agg #[.int .i64 4,.int .i64 0,.int .i64 (-2),.int .i64 0,.slice a 2 cp],.bool true])/\Below W.heap.size W w'/\w'.ownsRow B 3 1 (.slice a 2 cp) 2 [.int .i64 2,.int .i64 0]):=by
  have hM:MoAt W kmB (.slice (some ⟨g,0,none⟩) 2 2) (.slice (some ⟨c,0,none⟩) 1 1) (.slice (some ⟨t,0,none⟩) 1 1):=⟨at_vars h1,cap22 g,at_con h2 h3,at_goal h4⟩;refine ⟨?_,?_⟩
  · refine Calls.mono (au_all kmB _ _ _ W hM) ?_
    rintro e w' ⟨hb,⟨h,_⟩ | ⟨_,he⟩⟩
    · rw [km_smallB] at h;cases h
    · rw [km_lenB] at he
      exact ⟨he,hb⟩
  · refine Calls.mono (au_answer kmB _ _ _ W hM) ?_
    rintro e w' ⟨hb,⟨h,_⟩ | ⟨_,v,B,he,_,how⟩⟩
    · rw [km_smallB] at h;cases h
    · rw [km_ansB] at he how
      obtain ⟨a,cp,rfl⟩:=own_sl how;exact ⟨a,cp,B,he,hb,how⟩
theorem weigh_good (W:World) (hg:Gl W):Calls Tryz.prog 21 #[.string ktA] W fun e w'=>e=.returned (.tuple #[.agg #[.int .i64 4,.int .i64 32,.int .i64 2,.int .i64 2,.int .i64 2,.int .i64 10,.int .i64 0,.int .i64 0,.int .i64 0,.int .i64 1,.int .i64 1,.int .i64 0,.int .i64 1,.int .i64 1,.int .i64 0,.int .i64 0,.int .i64 0,.int .i64 0,.int .i64 0],.nilIface])/\Below W.heap.size W w':=by
  refine Calls.mono (weigh_any ktA W (by decide) hg) ?_;rintro e w' ⟨hb,⟨_,he⟩ | ⟨pre,x,post,f,hL,_,hx,_⟩⟩
  · refine ⟨?_,hb⟩
    have e32:(ktA.size:Int)=32:=by decide
    rw [e32,kt_wt] at he;exact he
  · have:=kt_good
    rw [hL] at this;simp [hx] at this
theorem weigh_bad (W:World) (hg:Gl W):Calls Tryz.prog 21 #[.string ktB] W fun e w'=>(∃ f,e=.returned (.tuple #[.agg zW,.iface 95 (.pointer (some ⟨f,0,none⟩))]))/\Below W.heap.size W w':=by
  refine Calls.mono (weigh_any ktB W (by decide) hg) ?_;rintro e w' ⟨hb,⟨h,_⟩ | ⟨pre,x,post,f,hL,_,hx,he,_⟩⟩
  · have h2:=kt_bad
    have:(lns ktB.data.toList []).all (fun x=>er x==0)=true:=List.all_eq_true.2 fun x hx=>by simp [h x hx]
    rw [this] at h2
    cases h2
  · exact ⟨⟨f,he⟩,hb⟩
end Go.Proofs.YtjgghimjnbjlbaaGreatDoor

namespace Go.Proofs.YtjgghimjnbjlbaaGreatDoor
open Go Go.RowKit Go.Shelf Go.Lib
set_option maxRecDepth 20000
set_option maxHeartbeats 8000000
attribute [local go_sem] Oper.semAt_some
theorem own_step {W W':World} {B:Nat} {v:Value} {n:Nat} {xs:List Value} (h:W.ownsRow B 3 1 v n xs) (hb:Below W.heap.size W W'):W'.ownsRow B 3 1 v n xs:=own_keep h fun g hg=>hb.block g (own_ge h hg).2
theorem own_apart26 {W W':World} {B p:Nat} {v:Value} {n:Nat} {xs:List Value} {c:Array Value} (h:W.ownsRow B 3 1 v n xs) (hp:W.heap[p]?=some (.cells c 26 (0,0))) (hk:∀ k,k≠p->W'.heap[k]?=W.heap[k]?):W'.ownsRow B 3 1 v n xs:=by
  refine own_keep h fun g hg=>hk g ?_
  rintro rfl;rcases h.2 with ⟨rfl,_⟩ | ⟨g',cap,cur,rfl,_,hgc,_⟩
  · cases hg
  · have:g'=g:=by simpa [Value.ownBlock] using hg
    subst this;rw [hp] at hgc
    cases hgc
def wtK:Array Value:=#[.int .i64 4,.int .i64 32,.int .i64 2,.int .i64 2,.int .i64 2,.int .i64 10,.int .i64 0,.int .i64 0,.int .i64 0,.int .i64 1,.int .i64 1,.int .i64 0,.int .i64 1,.int .i64 1,.int .i64 0,.int .i64 0,.int .i64 0,.int .i64 0,.int .i64 0]
theorem weigh_goodK (W:World) (hg:Gl W):Calls Tryz.prog 21 #[.string ktA] W fun e w'=>e=.returned (.tuple #[.agg wtK,.nilIface])/\Below W.heap.size W w':=weigh_good W hg
theorem row_step {w W:World} {L:List (Nat × Obj)} (h:Keeps w L W) (cs:Array Value):Below W.heap.size W ((W.alloc (.cells zW 55)).setRow W.heap.size cs)/\Keeps w ((W.heap.size,.cells cs 55 (0,0)) :: L) ((W.alloc (.cells zW 55)).setRow W.heap.size cs):=by
  have hz:(W.alloc (.cells zW 55)).heap[W.heap.size]?=some (.cells zW 55 (0,0)):=heap_alloc_new W _;have hb:Below W.heap.size W ((W.alloc (.cells zW 55)).setRow W.heap.size cs):=((Below.refl _ _).alloc (Nat.le_refl _) _).trans ⟨rfl,rfl,rfl,by simp [World.setRow],fun k hk=>setRow_other _ _ k _ (by omega)⟩;have h2:=h.step hb;refine ⟨hb,h2.1,fun p hp=>?_⟩;rcases List.mem_cons.1 hp with rfl | hp
  · exact setRow_heap _ W.heap.size _ cs _ _ hz
  · exact h2.2 p hp
theorem known_any (w:World) (hg:Gl w):Calls Tryz.prog 8 #[] w fun e w'=>e=.returned (.bool true)/\Below w.heap.size w w':=by
  have HG:Hid (∀ W,Below w.heap.size w W->Gl W):=fun W hb=>hg.next hb
  clear hg;go_enter Tryz.func8,Tryz.ntmps8;go_wp2_with fail
  have K0:Keeps w [] w:=⟨Below.refl _ _,fun p hp=>by cases hp⟩;obtain ⟨V1,hV1⟩:∃ V,w.alloc (.cells #[.string ⟨#[120]⟩,.int .i64 0,.int .i64 2,.string ⟨#[121]⟩,.int .i64 0,.int .i64 2] 49)=V:=⟨_,rfl⟩;have zV1:V1.heap.size=w.heap.size+1:=by
    have h:V1.heap.size=w.heap.size+1:=by rw [<-hV1];exact Array.size_push _
    omega
  obtain ⟨V2,hV2⟩:∃ V,V1.alloc (.cells #[.int .i64 0,.int .i64 1] 3)=V:=⟨_,rfl⟩;have zV2:V2.heap.size=w.heap.size+1+1:=by
    have h:V2.heap.size=V1.heap.size+1:=by rw [<-hV2];exact Array.size_push _
    omega
  obtain ⟨V3,hV3⟩:∃ V,V2.alloc (.cells #[.int .i64 3,.int .i64 0,.slice none 0 0,.int .i64 0,.int .i64 0,.int .i64 0,.int .i64 0,.slice (some ⟨w.heap.size+1,0,none⟩) 2 2,.slice none 0 0,.slice none 0 0] 51)=V:=⟨_,rfl⟩;have zV3:V3.heap.size=w.heap.size+1+1+1:=by
    have h:V3.heap.size=V2.heap.size+1:=by rw [<-hV3];exact Array.size_push _
    omega
  obtain ⟨V4,hV4⟩:∃ V,V3.alloc (.cells #[.slice (some ⟨w.heap.size,0,none⟩) 2 2,.slice (some ⟨w.heap.size+1+1,0,none⟩) 1 1,.bool false,.slice none 0 0] 26)=V:=⟨_,rfl⟩;have zV4:V4.heap.size=w.heap.size+1+1+1+1:=by
    have h:V4.heap.size=V3.heap.size+1:=by rw [<-hV4];exact Array.size_push _
    omega
  have K4:Hid (Keeps w [(w.heap.size+1+1+1,Obj.cells #[.slice (some ⟨w.heap.size,0,none⟩) 2 2,.slice (some ⟨w.heap.size+1+1,0,none⟩) 1 1,.bool false,.slice none 0 0] 26 (0,0)),(w.heap.size+1+1,Obj.cells #[.int .i64 3,.int .i64 0,.slice none 0 0,.int .i64 0,.int .i64 0,.int .i64 0,.int .i64 0,.slice (some ⟨w.heap.size+1,0,none⟩) 2 2,.slice none 0 0,.slice none 0 0] 51 (0,0)),(w.heap.size+1,Obj.cells #[.int .i64 0,.int .i64 1] 3 (0,0)),(w.heap.size,Obj.cells #[.string ⟨#[120]⟩,.int .i64 0,.int .i64 2,.string ⟨#[121]⟩,.int .i64 0,.int .i64 2] 49 (0,0))] V4):=by
    have k:=(((K0.alloc (.cells #[.string ⟨#[120]⟩,.int .i64 0,.int .i64 2,.string ⟨#[121]⟩,.int .i64 0,.int .i64 2] 49)).alloc (.cells #[.int .i64 0,.int .i64 1] 3)).alloc (.cells #[.int .i64 3,.int .i64 0,.slice none 0 0,.int .i64 0,.int .i64 0,.int .i64 0,.int .i64 0,.slice (some ⟨w.heap.size+1,0,none⟩) 2 2,.slice none 0 0,.slice none 0 0] 51)).alloc (.cells #[.slice (some ⟨w.heap.size,0,none⟩) 2 2,.slice (some ⟨w.heap.size+1+1,0,none⟩) 1 1,.bool false,.slice none 0 0] 26);rw [hV1,hV2,hV3,hV4,zV1,zV2,zV3] at k;exact k
  rw [hV1,hV2,hV3,hV4];clear K0 zV1 zV2 zV3 zV4;have C1:=(count_km V4 _ _ _ (K4.out.get 3 rfl) (K4.out.get 1 rfl) (K4.out.get 2 rfl)).1;refine calls_at C1 (by with_reducible rfl) (by with_reducible rfl) ?_;rintro e u1 ⟨rfl,hb1⟩;have K5:Hid (Keeps w [(w.heap.size+1+1+1,Obj.cells #[.slice (some ⟨w.heap.size,0,none⟩) 2 2,.slice (some ⟨w.heap.size+1+1,0,none⟩) 1 1,.bool false,.slice none 0 0] 26 (0,0)),(w.heap.size+1+1,Obj.cells #[.int .i64 3,.int .i64 0,.slice none 0 0,.int .i64 0,.int .i64 0,.int .i64 0,.int .i64 0,.slice (some ⟨w.heap.size+1,0,none⟩) 2 2,.slice none 0 0,.slice none 0 0] 51 (0,0)),(w.heap.size+1,Obj.cells #[.int .i64 0,.int .i64 1] 3 (0,0)),(w.heap.size,Obj.cells #[.string ⟨#[120]⟩,.int .i64 0,.int .i64 2,.string ⟨#[121]⟩,.int .i64 0,.int .i64 2] 49 (0,0))] u1):=K4.out.step hb1
  clear C1 hb1 K4 hV1 hV2 hV3 hV4;have C2:=(count_km u1 _ _ _ (K5.out.get 3 rfl) (K5.out.get 1 rfl) (K5.out.get 2 rfl)).2;have b0:=cell_of (K5.out.get 0 rfl) 0;have b1:=cell_of (K5.out.get 0 rfl) 1;have b2:=cell_of (K5.out.get 0 rfl) 2;have b3:=cell_of (K5.out.get 0 rfl) 3;dsimp at b0 b1 b2 b3;go_wp2_with fail
  refine calls_at C2 (by with_reducible rfl) (by with_reducible rfl) ?_;rintro e u2 ⟨a1,c1,B1,rfl,hb2,ho⟩;have HO1:Hid (u2.ownsRow B1 3 1 (.slice a1 2 c1) 2 [.int .i64 0,.int .i64 1]):=ho;have K6:Hid (Keeps w [(w.heap.size+1+1+1,Obj.cells #[.slice (some ⟨w.heap.size,0,none⟩) 2 2,.slice (some ⟨w.heap.size+1+1,0,none⟩) 1 1,.bool false,.slice none 0 0] 26 (0,0)),(w.heap.size+1+1,Obj.cells #[.int .i64 3,.int .i64 0,.slice none 0 0,.int .i64 0,.int .i64 0,.int .i64 0,.int .i64 0,.slice (some ⟨w.heap.size+1,0,none⟩) 2 2,.slice none 0 0,.slice none 0 0] 51 (0,0)),(w.heap.size+1,Obj.cells #[.int .i64 0,.int .i64 1] 3 (0,0)),(w.heap.size,Obj.cells #[.string ⟨#[120]⟩,.int .i64 0,.int .i64 2,.string ⟨#[121]⟩,.int .i64 0,.int .i64 2] 49 (0,0))] u2):=K5.out.step hb2;clear C2 hb2 ho K5;clear b0 b1 b2 b3
  obtain ⟨V5,hV5⟩:∃ V,u2.alloc (.cells #[.int .i64 3,.int .i64 0,.int .i64 0,.int .i64 0,.slice a1 2 c1] 39)=V:=⟨_,rfl⟩;have zV5:V5.heap.size=u2.heap.size+1:=by
    have h:V5.heap.size=u2.heap.size+1:=by rw [<-hV5];exact Array.size_push _
    omega
  obtain ⟨V6,hV6⟩:∃ V,V5.alloc (.cells #[.int .i64 (-1),.int .i64 0] 67)=V:=⟨_,rfl⟩;have zV6:V6.heap.size=u2.heap.size+2:=by
    have h:V6.heap.size=V5.heap.size+1:=by rw [<-hV6];exact Array.size_push _
    omega
  have K8:Hid (Keeps w [(u2.heap.size+1,Obj.cells #[.int .i64 (-1),.int .i64 0] 67 (0,0)),(u2.heap.size,Obj.cells #[.int .i64 3,.int .i64 0,.int .i64 0,.int .i64 0,.slice a1 2 c1] 39 (0,0)),(w.heap.size+1+1+1,Obj.cells #[.slice (some ⟨w.heap.size,0,none⟩) 2 2,.slice (some ⟨w.heap.size+1+1,0,none⟩) 1 1,.bool false,.slice none 0 0] 26 (0,0)),(w.heap.size+1+1,Obj.cells #[.int .i64 3,.int .i64 0,.slice none 0 0,.int .i64 0,.int .i64 0,.int .i64 0,.int .i64 0,.slice (some ⟨w.heap.size+1,0,none⟩) 2 2,.slice none 0 0,.slice none 0 0] 51 (0,0)),(w.heap.size+1,Obj.cells #[.int .i64 0,.int .i64 1] 3 (0,0)),(w.heap.size,Obj.cells #[.string ⟨#[120]⟩,.int .i64 0,.int .i64 2,.string ⟨#[121]⟩,.int .i64 0,.int .i64 2] 49 (0,0))] V6):=by
    have k:=(K6.out.alloc (.cells #[.int .i64 3,.int .i64 0,.int .i64 0,.int .i64 0,.slice a1 2 c1] 39)).alloc (.cells #[.int .i64 (-1),.int .i64 0] 67);rw [hV5,hV6,zV5] at k;exact k
  have HO2:Hid (V6.ownsRow B1 3 1 (.slice a1 2 c1) 2 [.int .i64 0,.int .i64 1]):=by
    show World.ownsRow _ _ _ _ _ _ _;rw [<-hV6,<-hV5];exact own_step (own_step HO1.out ((Below.refl _ _).alloc (Nat.le_refl _) _)) ((Below.refl _ _).alloc (Nat.le_refl _) _)
  have b0:=cell_of (K8.out.get 2 rfl) 0;have b1:=cell_of (K8.out.get 2 rfl) 1;have b2:=cell_of (K8.out.get 2 rfl) 2;have b3:=cell_of (K8.out.get 2 rfl) 3;dsimp at b0 b1 b2 b3;have f2:=frozen_of (K8.out.get 2 rfl) 2;have f3:=frozen_of (K8.out.get 2 rfl) 3;obtain ⟨V7,hV7⟩:∃ V,(V6.setCell ⟨w.heap.size+1+1+1,2,none⟩ (.bool true)).setCell ⟨w.heap.size+1+1+1,3,none⟩ (.slice (some ⟨u2.heap.size+1,0,none⟩) 1 1)=V:=⟨_,rfl⟩;have hk7:∀ k,k≠w.heap.size+1+1+1->V7.heap[k]?=V6.heap[k]?:=fun k hk=>by
    rw [<-hV7,heap_setCell_other _ _ _ _ (by exact hk),heap_setCell_other _ _ _ _ (by exact hk)]
  have K9:Hid (Keeps w [(w.heap.size+1+1+1,Obj.cells #[.slice (some ⟨w.heap.size,0,none⟩) 2 2,.slice (some ⟨w.heap.size+1+1,0,none⟩) 1 1,.bool true,.slice (some ⟨u2.heap.size+1,0,none⟩) 1 1] 26 (0,0)),(u2.heap.size+1,Obj.cells #[.int .i64 (-1),.int .i64 0] 67 (0,0)),(u2.heap.size,Obj.cells #[.int .i64 3,.int .i64 0,.int .i64 0,.int .i64 0,.slice a1 2 c1] 39 (0,0)),(w.heap.size+1+1,Obj.cells #[.int .i64 3,.int .i64 0,.slice none 0 0,.int .i64 0,.int .i64 0,.int .i64 0,.int .i64 0,.slice (some ⟨w.heap.size+1,0,none⟩) 2 2,.slice none 0 0,.slice none 0 0] 51 (0,0)),(w.heap.size+1,Obj.cells #[.int .i64 0,.int .i64 1] 3 (0,0)),(w.heap.size,Obj.cells #[.string ⟨#[120]⟩,.int .i64 0,.int .i64 2,.string ⟨#[121]⟩,.int .i64 0,.int .i64 2] 49 (0,0))] V7):=by
    have hbx:=K8.out.get 2 rfl;have hsz2:w.heap.size+4<=u2.heap.size:=by
      have:=(Array.getElem?_eq_some_iff.1 (K6.out.get 0 rfl)).1;dsimp at this;omega
    refine ⟨?_,?_⟩
    · rw [<-hV7]
      exact (K8.out.1.setCell (show w.heap.size<=w.heap.size+1+1+1 by omega) _).setCell (show w.heap.size<=w.heap.size+1+1+1 by omega) _
    · intro p hp
      simp only [List.mem_cons,List.not_mem_nil,or_false] at hp;rcases hp with rfl | rfl | rfl | rfl | rfl | rfl
      · have:=set_of (set_of hbx 2 (.bool true)) 3 (.slice (some ⟨u2.heap.size+1,0,none⟩) 1 1)
        show V7.heap[w.heap.size+1+1+1]?=_;rw [<-hV7];simpa using this
      · exact (hk7 _ (show u2.heap.size+1≠w.heap.size+1+1+1 by omega)).trans (K8.out.get 0 rfl)
      · exact (hk7 _ (show u2.heap.size≠w.heap.size+1+1+1 by omega)).trans (K8.out.get 1 rfl)
      · exact (hk7 _ (show w.heap.size+1+1≠w.heap.size+1+1+1 by omega)).trans (K8.out.get 3 rfl)
      · exact (hk7 _ (show w.heap.size+1≠w.heap.size+1+1+1 by omega)).trans (K8.out.get 4 rfl)
      · exact (hk7 _ (show w.heap.size≠w.heap.size+1+1+1 by omega)).trans (K8.out.get 5 rfl)
  have HO3:Hid (V7.ownsRow B1 3 1 (.slice a1 2 c1) 2 [.int .i64 0,.int .i64 1]):=own_apart26 HO2.out (K8.out.get 2 rfl) hk7;have C3:=(goal_km V7 _ _ _ _ (K9.out.get 5 rfl) (K9.out.get 3 rfl) (K9.out.get 4 rfl) (K9.out.get 1 rfl)).2;have g0:=cell_of (K9.out.get 0 rfl) 0;have g1:=cell_of (K9.out.get 0 rfl) 1;have g2:=cell_of (K9.out.get 0 rfl) 2;have g3:=cell_of (K9.out.get 0 rfl) 3;dsimp at g0 g1 g2 g3;clear hk7 K6 HO1 HO2;go_wp2_with fail
  refine calls_at C3 (by with_reducible rfl) (by with_reducible rfl) ?_;rintro e u3 ⟨a2,c2,B2,rfl,hb3,ho⟩;have HO4:Hid (u3.ownsRow B1 3 1 (.slice a1 2 c1) 2 [.int .i64 0,.int .i64 1]):=own_step HO3.out hb3;have HP1:Hid (u3.ownsRow B2 3 1 (.slice a2 2 c2) 2 [.int .i64 2,.int .i64 0]):=ho
  have K10:Hid (Keeps w [(w.heap.size+1+1+1,Obj.cells #[.slice (some ⟨w.heap.size,0,none⟩) 2 2,.slice (some ⟨w.heap.size+1+1,0,none⟩) 1 1,.bool true,.slice (some ⟨u2.heap.size+1,0,none⟩) 1 1] 26 (0,0)),(u2.heap.size+1,Obj.cells #[.int .i64 (-1),.int .i64 0] 67 (0,0)),(u2.heap.size,Obj.cells #[.int .i64 3,.int .i64 0,.int .i64 0,.int .i64 0,.slice a1 2 c1] 39 (0,0)),(w.heap.size+1+1,Obj.cells #[.int .i64 3,.int .i64 0,.slice none 0 0,.int .i64 0,.int .i64 0,.int .i64 0,.int .i64 0,.slice (some ⟨w.heap.size+1,0,none⟩) 2 2,.slice none 0 0,.slice none 0 0] 51 (0,0)),(w.heap.size+1,Obj.cells #[.int .i64 0,.int .i64 1] 3 (0,0)),(w.heap.size,Obj.cells #[.string ⟨#[120]⟩,.int .i64 0,.int .i64 2,.string ⟨#[121]⟩,.int .i64 0,.int .i64 2] 49 (0,0))] u3):=K9.out.step hb3;clear C3 hb3 ho K8 K9 hV5 hV6 hV7 HO3 f2 f3
  clear b0 b1 b2 b3;clear g0 g1 g2 g3;obtain ⟨V8,hV8⟩:∃ V,u3.alloc (.cells #[.int .i64 4,.int .i64 0,.int .i64 (-2),.int .i64 0,.slice a2 2 c2] 39)=V:=⟨_,rfl⟩;have zV8:V8.heap.size=u3.heap.size+1:=by
    have h:V8.heap.size=u3.heap.size+1:=by rw [<-hV8];exact Array.size_push _
    omega
  have K11:Hid (Keeps w [(u3.heap.size,Obj.cells #[.int .i64 4,.int .i64 0,.int .i64 (-2),.int .i64 0,.slice a2 2 c2] 39 (0,0)),(w.heap.size+1+1+1,Obj.cells #[.slice (some ⟨w.heap.size,0,none⟩) 2 2,.slice (some ⟨w.heap.size+1+1,0,none⟩) 1 1,.bool true,.slice (some ⟨u2.heap.size+1,0,none⟩) 1 1] 26 (0,0)),(u2.heap.size+1,Obj.cells #[.int .i64 (-1),.int .i64 0] 67 (0,0)),(u2.heap.size,Obj.cells #[.int .i64 3,.int .i64 0,.int .i64 0,.int .i64 0,.slice a1 2 c1] 39 (0,0)),(w.heap.size+1+1,Obj.cells #[.int .i64 3,.int .i64 0,.slice none 0 0,.int .i64 0,.int .i64 0,.int .i64 0,.int .i64 0,.slice (some ⟨w.heap.size+1,0,none⟩) 2 2,.slice none 0 0,.slice none 0 0] 51 (0,0)),(w.heap.size+1,Obj.cells #[.int .i64 0,.int .i64 1] 3 (0,0)),(w.heap.size,Obj.cells #[.string ⟨#[120]⟩,.int .i64 0,.int .i64 2,.string ⟨#[121]⟩,.int .i64 0,.int .i64 2] 49 (0,0))] V8):=by
    have k:=K10.out.alloc (.cells #[.int .i64 4,.int .i64 0,.int .i64 (-2),.int .i64 0,.slice a2 2 c2] 39);rw [hV8] at k;exact k
  have HO5:Hid (V8.ownsRow B1 3 1 (.slice a1 2 c1) 2 [.int .i64 0,.int .i64 1]):=by
    show World.ownsRow _ _ _ _ _ _ _;rw [<-hV8];exact own_step HO4.out ((Below.refl _ _).alloc (Nat.le_refl _) _)
  have HP2:Hid (V8.ownsRow B2 3 1 (.slice a2 2 c2) 2 [.int .i64 2,.int .i64 0]):=by
    show World.ownsRow _ _ _ _ _ _ _;rw [<-hV8];exact own_step HP1.out ((Below.refl _ _).alloc (Nat.le_refl _) _)
  have C4:=(goal_km V8 _ _ _ _ (K11.out.get 6 rfl) (K11.out.get 4 rfl) (K11.out.get 5 rfl) (K11.out.get 2 rfl)).1;have b0:=cell_of (K11.out.get 1 rfl) 0;have b1:=cell_of (K11.out.get 1 rfl) 1;have b2:=cell_of (K11.out.get 1 rfl) 2;have b3:=cell_of (K11.out.get 1 rfl) 3;dsimp at b0 b1 b2 b3;go_wp2_with fail
  refine calls_at C4 (by with_reducible rfl) (by with_reducible rfl) ?_;rintro e u4 ⟨rfl,hb4⟩;have HO6:Hid (u4.ownsRow B1 3 1 (.slice a1 2 c1) 2 [.int .i64 0,.int .i64 1]):=own_step HO5.out hb4;have HP3:Hid (u4.ownsRow B2 3 1 (.slice a2 2 c2) 2 [.int .i64 2,.int .i64 0]):=own_step HP2.out hb4
  have K12:Hid (Keeps w [(u3.heap.size,Obj.cells #[.int .i64 4,.int .i64 0,.int .i64 (-2),.int .i64 0,.slice a2 2 c2] 39 (0,0)),(w.heap.size+1+1+1,Obj.cells #[.slice (some ⟨w.heap.size,0,none⟩) 2 2,.slice (some ⟨w.heap.size+1+1,0,none⟩) 1 1,.bool true,.slice (some ⟨u2.heap.size+1,0,none⟩) 1 1] 26 (0,0)),(u2.heap.size+1,Obj.cells #[.int .i64 (-1),.int .i64 0] 67 (0,0)),(u2.heap.size,Obj.cells #[.int .i64 3,.int .i64 0,.int .i64 0,.int .i64 0,.slice a1 2 c1] 39 (0,0)),(w.heap.size+1+1,Obj.cells #[.int .i64 3,.int .i64 0,.slice none 0 0,.int .i64 0,.int .i64 0,.int .i64 0,.int .i64 0,.slice (some ⟨w.heap.size+1,0,none⟩) 2 2,.slice none 0 0,.slice none 0 0] 51 (0,0)),(w.heap.size+1,Obj.cells #[.int .i64 0,.int .i64 1] 3 (0,0)),(w.heap.size,Obj.cells #[.string ⟨#[120]⟩,.int .i64 0,.int .i64 2,.string ⟨#[121]⟩,.int .i64 0,.int .i64 2] 49 (0,0))] u4):=K11.out.step hb4
  clear C4 hb4 K10 K11 hV8 HO4 HO5 HP1 HP2;clear b0 b1 b2 b3;go_wp2_with fail
  obtain ⟨V9,hV9⟩:∃ V,u4.alloc (.cells #[.int .i64 6,.int .i64 0,.int .i64 0,.int .i64 6,.slice none 0 0] 39)=V:=⟨_,rfl⟩;have zV9:V9.heap.size=u4.heap.size+1:=by
    have h:V9.heap.size=u4.heap.size+1:=by rw [<-hV9];exact Array.size_push _
    omega
  rw [hV9]
  have K13:Hid (Keeps w [(u4.heap.size,Obj.cells #[.int .i64 6,.int .i64 0,.int .i64 0,.int .i64 6,.slice none 0 0] 39 (0,0)),(u3.heap.size,Obj.cells #[.int .i64 4,.int .i64 0,.int .i64 (-2),.int .i64 0,.slice a2 2 c2] 39 (0,0)),(w.heap.size+1+1+1,Obj.cells #[.slice (some ⟨w.heap.size,0,none⟩) 2 2,.slice (some ⟨w.heap.size+1+1,0,none⟩) 1 1,.bool true,.slice (some ⟨u2.heap.size+1,0,none⟩) 1 1] 26 (0,0)),(u2.heap.size+1,Obj.cells #[.int .i64 (-1),.int .i64 0] 67 (0,0)),(u2.heap.size,Obj.cells #[.int .i64 3,.int .i64 0,.int .i64 0,.int .i64 0,.slice a1 2 c1] 39 (0,0)),(w.heap.size+1+1,Obj.cells #[.int .i64 3,.int .i64 0,.slice none 0 0,.int .i64 0,.int .i64 0,.int .i64 0,.int .i64 0,.slice (some ⟨w.heap.size+1,0,none⟩) 2 2,.slice none 0 0,.slice none 0 0] 51 (0,0)),(w.heap.size+1,Obj.cells #[.int .i64 0,.int .i64 1] 3 (0,0)),(w.heap.size,Obj.cells #[.string ⟨#[120]⟩,.int .i64 0,.int .i64 2,.string ⟨#[121]⟩,.int .i64 0,.int .i64 2] 49 (0,0))] V9):=by
    have k:=K12.out.alloc (.cells #[.int .i64 6,.int .i64 0,.int .i64 0,.int .i64 6,.slice none 0 0] 39);rw [hV9] at k;exact k
  have hb9:Below u4.heap.size u4 V9:=by rw [<-hV9];exact (Below.refl _ _).alloc (Nat.le_refl _) _
  have HO7:Hid (V9.ownsRow B1 3 1 (.slice a1 2 c1) 2 [.int .i64 0,.int .i64 1]):=own_step HO6.out hb9;have HP4:Hid (V9.ownsRow B2 3 1 (.slice a2 2 c2) 2 [.int .i64 2,.int .i64 0]):=own_step HP3.out hb9;have C5:=same_vd 6 0 6 _ _ [] V9 (nil_ints V9) (nil_ints V9);unfold vdC at C5;clear hb9;refine calls_at C5 (by with_reducible rfl) (by with_reducible rfl) ?_;rintro e u5 ⟨rfl,hb5⟩;have HO8:Hid (u5.ownsRow B1 3 1 (.slice a1 2 c1) 2 [.int .i64 0,.int .i64 1]):=own_step HO7.out hb5;have HP5:Hid (u5.ownsRow B2 3 1 (.slice a2 2 c2) 2 [.int .i64 2,.int .i64 0]):=own_step HP4.out hb5
  have K14:Hid (Keeps w [(u4.heap.size,Obj.cells #[.int .i64 6,.int .i64 0,.int .i64 0,.int .i64 6,.slice none 0 0] 39 (0,0)),(u3.heap.size,Obj.cells #[.int .i64 4,.int .i64 0,.int .i64 (-2),.int .i64 0,.slice a2 2 c2] 39 (0,0)),(w.heap.size+1+1+1,Obj.cells #[.slice (some ⟨w.heap.size,0,none⟩) 2 2,.slice (some ⟨w.heap.size+1+1,0,none⟩) 1 1,.bool true,.slice (some ⟨u2.heap.size+1,0,none⟩) 1 1] 26 (0,0)),(u2.heap.size+1,Obj.cells #[.int .i64 (-1),.int .i64 0] 67 (0,0)),(u2.heap.size,Obj.cells #[.int .i64 3,.int .i64 0,.int .i64 0,.int .i64 0,.slice a1 2 c1] 39 (0,0)),(w.heap.size+1+1,Obj.cells #[.int .i64 3,.int .i64 0,.slice none 0 0,.int .i64 0,.int .i64 0,.int .i64 0,.int .i64 0,.slice (some ⟨w.heap.size+1,0,none⟩) 2 2,.slice none 0 0,.slice none 0 0] 51 (0,0)),(w.heap.size+1,Obj.cells #[.int .i64 0,.int .i64 1] 3 (0,0)),(w.heap.size,Obj.cells #[.string ⟨#[120]⟩,.int .i64 0,.int .i64 2,.string ⟨#[121]⟩,.int .i64 0,.int .i64 2] 49 (0,0))] u5):=K13.out.step hb5
  clear C5 hb5 K12 K13 hV9 HO6 HO7 HP3 HP4;have C6:=weigh_goodK u5 (HG.out _ K14.out.1);unfold ktA at C6;go_wp2_with fail
  refine calls_at C6 (by with_reducible rfl) (by with_reducible rfl) ?_;rintro e u6 ⟨rfl,hb6⟩;have HO9:Hid (u6.ownsRow B1 3 1 (.slice a1 2 c1) 2 [.int .i64 0,.int .i64 1]):=own_step HO8.out hb6;have HP6:Hid (u6.ownsRow B2 3 1 (.slice a2 2 c2) 2 [.int .i64 2,.int .i64 0]):=own_step HP5.out hb6
  have K15:Hid (Keeps w [(u4.heap.size,Obj.cells #[.int .i64 6,.int .i64 0,.int .i64 0,.int .i64 6,.slice none 0 0] 39 (0,0)),(u3.heap.size,Obj.cells #[.int .i64 4,.int .i64 0,.int .i64 (-2),.int .i64 0,.slice a2 2 c2] 39 (0,0)),(w.heap.size+1+1+1,Obj.cells #[.slice (some ⟨w.heap.size,0,none⟩) 2 2,.slice (some ⟨w.heap.size+1+1,0,none⟩) 1 1,.bool true,.slice (some ⟨u2.heap.size+1,0,none⟩) 1 1] 26 (0,0)),(u2.heap.size+1,Obj.cells #[.int .i64 (-1),.int .i64 0] 67 (0,0)),(u2.heap.size,Obj.cells #[.int .i64 3,.int .i64 0,.int .i64 0,.int .i64 0,.slice a1 2 c1] 39 (0,0)),(w.heap.size+1+1,Obj.cells #[.int .i64 3,.int .i64 0,.slice none 0 0,.int .i64 0,.int .i64 0,.int .i64 0,.int .i64 0,.slice (some ⟨w.heap.size+1,0,none⟩) 2 2,.slice none 0 0,.slice none 0 0] 51 (0,0)),(w.heap.size+1,Obj.cells #[.int .i64 0,.int .i64 1] 3 (0,0)),(w.heap.size,Obj.cells #[.string ⟨#[120]⟩,.int .i64 0,.int .i64 2,.string ⟨#[121]⟩,.int .i64 0,.int .i64 2] 49 (0,0))] u6):=K14.out.step hb6
  clear C6 hb6 K14 HO8 HP5;obtain ⟨Vy,hVy⟩:∃ V,u6.alloc (.cells #[.int .i64 0,.int .i64 0,.int .i64 0,.int .i64 0,.int .i64 0,.int .i64 0,.int .i64 0,.int .i64 0,.int .i64 0,.int .i64 0,.int .i64 0,.int .i64 0,.int .i64 0,.int .i64 0,.int .i64 0,.int .i64 0,.int .i64 0,.int .i64 0,.int .i64 0] 55)=V:=⟨_,rfl⟩;have HY:Hid (Vy.heap[u6.heap.size]?=some (.cells zW 55 (0,0))):=by show _=_;rw [<-hVy];exact heap_alloc_new u6 _
  have hR:=row_step K15.out wtK;have hVy':u6.alloc (.cells zW 55)=Vy:=hVy;rw [hVy'] at hR;have HR:Hid _:=hR;clear hR hVy';go_wp2_with (refine wpList_store_row rfl 55 (.tmp 10) (.tmp 55) rfl u6.heap.size wtK (by rfl) (by rfl) 55 zW HY.out infW rfl (by simp [wtK,Value.oneCell']) ?_)
  have hR:=HR.out;obtain ⟨V10,hV10⟩:∃ V,Vy.setRow u6.heap.size wtK=V:=⟨_,rfl⟩;rw [hV10] at hR ⊢;obtain ⟨hb10,k16⟩:=hR
  have K16:Hid (Keeps w [(u6.heap.size,Obj.cells wtK 55 (0,0)),(u4.heap.size,Obj.cells #[.int .i64 6,.int .i64 0,.int .i64 0,.int .i64 6,.slice none 0 0] 39 (0,0)),(u3.heap.size,Obj.cells #[.int .i64 4,.int .i64 0,.int .i64 (-2),.int .i64 0,.slice a2 2 c2] 39 (0,0)),(w.heap.size+1+1+1,Obj.cells #[.slice (some ⟨w.heap.size,0,none⟩) 2 2,.slice (some ⟨w.heap.size+1+1,0,none⟩) 1 1,.bool true,.slice (some ⟨u2.heap.size+1,0,none⟩) 1 1] 26 (0,0)),(u2.heap.size+1,Obj.cells #[.int .i64 (-1),.int .i64 0] 67 (0,0)),(u2.heap.size,Obj.cells #[.int .i64 3,.int .i64 0,.int .i64 0,.int .i64 0,.slice a1 2 c1] 39 (0,0)),(w.heap.size+1+1,Obj.cells #[.int .i64 3,.int .i64 0,.slice none 0 0,.int .i64 0,.int .i64 0,.int .i64 0,.int .i64 0,.slice (some ⟨w.heap.size+1,0,none⟩) 2 2,.slice none 0 0,.slice none 0 0] 51 (0,0)),(w.heap.size+1,Obj.cells #[.int .i64 0,.int .i64 1] 3 (0,0)),(w.heap.size,Obj.cells #[.string ⟨#[120]⟩,.int .i64 0,.int .i64 2,.string ⟨#[121]⟩,.int .i64 0,.int .i64 2] 49 (0,0))] V10):=k16
  clear k16 HR hVy HY;have HO10:Hid (V10.ownsRow B1 3 1 (.slice a1 2 c1) 2 [.int .i64 0,.int .i64 1]):=own_step HO9.out hb10;have HP7:Hid (V10.ownsRow B2 3 1 (.slice a2 2 c2) 2 [.int .i64 2,.int .i64 0]):=own_step HP6.out hb10;have C7:=weigh_bad V10 (HG.out _ K16.out.1);unfold ktB at C7;clear hb10;refine calls_at C7 (by with_reducible rfl) (by with_reducible rfl) ?_;rintro e u7 ⟨⟨fp,rfl⟩,hb7⟩;have HO11:Hid (u7.ownsRow B1 3 1 (.slice a1 2 c1) 2 [.int .i64 0,.int .i64 1]):=own_step HO10.out hb7;have HP8:Hid (u7.ownsRow B2 3 1 (.slice a2 2 c2) 2 [.int .i64 2,.int .i64 0]):=own_step HP7.out hb7
  have K17:Hid (Keeps w [(u6.heap.size,Obj.cells wtK 55 (0,0)),(u4.heap.size,Obj.cells #[.int .i64 6,.int .i64 0,.int .i64 0,.int .i64 6,.slice none 0 0] 39 (0,0)),(u3.heap.size,Obj.cells #[.int .i64 4,.int .i64 0,.int .i64 (-2),.int .i64 0,.slice a2 2 c2] 39 (0,0)),(w.heap.size+1+1+1,Obj.cells #[.slice (some ⟨w.heap.size,0,none⟩) 2 2,.slice (some ⟨w.heap.size+1+1,0,none⟩) 1 1,.bool true,.slice (some ⟨u2.heap.size+1,0,none⟩) 1 1] 26 (0,0)),(u2.heap.size+1,Obj.cells #[.int .i64 (-1),.int .i64 0] 67 (0,0)),(u2.heap.size,Obj.cells #[.int .i64 3,.int .i64 0,.int .i64 0,.int .i64 0,.slice a1 2 c1] 39 (0,0)),(w.heap.size+1+1,Obj.cells #[.int .i64 3,.int .i64 0,.slice none 0 0,.int .i64 0,.int .i64 0,.int .i64 0,.int .i64 0,.slice (some ⟨w.heap.size+1,0,none⟩) 2 2,.slice none 0 0,.slice none 0 0] 51 (0,0)),(w.heap.size+1,Obj.cells #[.int .i64 0,.int .i64 1] 3 (0,0)),(w.heap.size,Obj.cells #[.string ⟨#[120]⟩,.int .i64 0,.int .i64 2,.string ⟨#[121]⟩,.int .i64 0,.int .i64 2] 49 (0,0))] u7):=K16.out.step hb7
  clear C7 hb7 K15 K16 HO9 HO10 HP6 HP7 hV10;obtain ⟨Vx,hVx⟩:∃ V,u7.alloc (.cells #[.int .i64 0,.int .i64 0,.int .i64 0,.int .i64 0,.int .i64 0,.int .i64 0,.int .i64 0,.int .i64 0,.int .i64 0,.int .i64 0,.int .i64 0,.int .i64 0,.int .i64 0,.int .i64 0,.int .i64 0,.int .i64 0,.int .i64 0,.int .i64 0,.int .i64 0] 55)=V:=⟨_,rfl⟩;have HX:Hid (Vx.heap[u7.heap.size]?=some (.cells zW 55 (0,0))):=by show _=_;rw [<-hVx];exact heap_alloc_new u7 _
  have hR:=row_step K17.out zW;have hVx':u7.alloc (.cells zW 55)=Vx:=hVx;rw [hVx'] at hR;obtain ⟨V11,hV11⟩:∃ V,Vx.setRow u7.heap.size zW=V:=⟨_,rfl⟩;rw [hV11] at hR;have zV11:V11.heap.size=u7.heap.size+1:=by
    have h1:V11.heap.size=Vx.heap.size:=by rw [<-hV11];simp [World.setRow]
    have h2:Vx.heap.size=u7.heap.size+1:=by rw [<-hVx];exact Array.size_push _
    omega
  have hb11:=hR.1
  have K18:Hid (Keeps w [(u6.heap.size,Obj.cells wtK 55 (0,0)),(u4.heap.size,Obj.cells #[.int .i64 6,.int .i64 0,.int .i64 0,.int .i64 6,.slice none 0 0] 39 (0,0)),(u3.heap.size,Obj.cells #[.int .i64 4,.int .i64 0,.int .i64 (-2),.int .i64 0,.slice a2 2 c2] 39 (0,0)),(w.heap.size+1+1+1,Obj.cells #[.slice (some ⟨w.heap.size,0,none⟩) 2 2,.slice (some ⟨w.heap.size+1+1,0,none⟩) 1 1,.bool true,.slice (some ⟨u2.heap.size+1,0,none⟩) 1 1] 26 (0,0)),(u2.heap.size+1,Obj.cells #[.int .i64 (-1),.int .i64 0] 67 (0,0)),(u2.heap.size,Obj.cells #[.int .i64 3,.int .i64 0,.int .i64 0,.int .i64 0,.slice a1 2 c1] 39 (0,0)),(w.heap.size+1+1,Obj.cells #[.int .i64 3,.int .i64 0,.slice none 0 0,.int .i64 0,.int .i64 0,.int .i64 0,.int .i64 0,.slice (some ⟨w.heap.size+1,0,none⟩) 2 2,.slice none 0 0,.slice none 0 0] 51 (0,0)),(w.heap.size+1,Obj.cells #[.int .i64 0,.int .i64 1] 3 (0,0)),(w.heap.size,Obj.cells #[.string ⟨#[120]⟩,.int .i64 0,.int .i64 2,.string ⟨#[121]⟩,.int .i64 0,.int .i64 2] 49 (0,0))] V11):=K17.out.step hb11
  clear hVx' hR;obtain ⟨V12,hV12⟩:∃ V,V11.alloc (.cells #[.int .i64 0,.int .i64 1] 3)=V:=⟨_,rfl⟩;have zV12:V12.heap.size=u7.heap.size+2:=by
    have h:V12.heap.size=V11.heap.size+1:=by rw [<-hV12];exact Array.size_push _
    omega
  have hb12:Below V11.heap.size V11 V12:=by rw [<-hV12];exact (Below.refl _ _).alloc (Nat.le_refl _) _
  have K19:Hid (Keeps w [(u6.heap.size,Obj.cells wtK 55 (0,0)),(u4.heap.size,Obj.cells #[.int .i64 6,.int .i64 0,.int .i64 0,.int .i64 6,.slice none 0 0] 39 (0,0)),(u3.heap.size,Obj.cells #[.int .i64 4,.int .i64 0,.int .i64 (-2),.int .i64 0,.slice a2 2 c2] 39 (0,0)),(w.heap.size+1+1+1,Obj.cells #[.slice (some ⟨w.heap.size,0,none⟩) 2 2,.slice (some ⟨w.heap.size+1+1,0,none⟩) 1 1,.bool true,.slice (some ⟨u2.heap.size+1,0,none⟩) 1 1] 26 (0,0)),(u2.heap.size+1,Obj.cells #[.int .i64 (-1),.int .i64 0] 67 (0,0)),(u2.heap.size,Obj.cells #[.int .i64 3,.int .i64 0,.int .i64 0,.int .i64 0,.slice a1 2 c1] 39 (0,0)),(w.heap.size+1+1,Obj.cells #[.int .i64 3,.int .i64 0,.slice none 0 0,.int .i64 0,.int .i64 0,.int .i64 0,.int .i64 0,.slice (some ⟨w.heap.size+1,0,none⟩) 2 2,.slice none 0 0,.slice none 0 0] 51 (0,0)),(w.heap.size+1,Obj.cells #[.int .i64 0,.int .i64 1] 3 (0,0)),(w.heap.size,Obj.cells #[.string ⟨#[120]⟩,.int .i64 0,.int .i64 2,.string ⟨#[121]⟩,.int .i64 0,.int .i64 2] 49 (0,0))] V12):=K18.out.step hb12
  have HO13:Hid (V12.ownsRow B1 3 1 (.slice a1 2 c1) 2 [.int .i64 0,.int .i64 1]):=own_step (own_step HO11.out hb11) hb12;have HP10:Hid (V12.ownsRow B2 3 1 (.slice a2 2 c2) 2 [.int .i64 2,.int .i64 0]):=own_step (own_step HP8.out hb11) hb12;have gi12:V12.heap[u7.heap.size+1]?=some (.cells #[.int .i64 0,.int .i64 1] 3 (0,0)):=by rw [<-hV12,<-zV11];exact heap_alloc_new V11 _
  have C8:=same_vd 3 0 0 _ _ [0,1] V12 (own_mints (x:=[0,1]) HO13.out) (at_ints 0 1 gi12);unfold vdC at C8;have b0:=cell_of (K18.out.get 5 rfl) 0;have b1:=cell_of (K18.out.get 5 rfl) 1;have b2:=cell_of (K18.out.get 5 rfl) 2;have b3:=cell_of (K18.out.get 5 rfl) 3;have b4:=cell_of (K18.out.get 5 rfl) 4;dsimp at b0 b1 b2 b3 b4;clear hb11 hb12 gi12;go_wp2_with (refine wpList_store_row rfl 55 (.tmp 12) (.tmp 59) rfl u7.heap.size zW (by rfl) (by rfl) 55 zW HX.out infW rfl (by simp [zW,Value.oneCell']) ?_;rw [hV11]);refine calls_at C8 (by with_reducible rfl) (by with_reducible rfl) ?_;rintro e u8 ⟨rfl,hb8⟩;have HP11:Hid (u8.ownsRow B2 3 1 (.slice a2 2 c2) 2 [.int .i64 2,.int .i64 0]):=own_step HP10.out hb8
  have K20:Hid (Keeps w [(u6.heap.size,Obj.cells wtK 55 (0,0)),(u4.heap.size,Obj.cells #[.int .i64 6,.int .i64 0,.int .i64 0,.int .i64 6,.slice none 0 0] 39 (0,0)),(u3.heap.size,Obj.cells #[.int .i64 4,.int .i64 0,.int .i64 (-2),.int .i64 0,.slice a2 2 c2] 39 (0,0)),(w.heap.size+1+1+1,Obj.cells #[.slice (some ⟨w.heap.size,0,none⟩) 2 2,.slice (some ⟨w.heap.size+1+1,0,none⟩) 1 1,.bool true,.slice (some ⟨u2.heap.size+1,0,none⟩) 1 1] 26 (0,0)),(u2.heap.size+1,Obj.cells #[.int .i64 (-1),.int .i64 0] 67 (0,0)),(u2.heap.size,Obj.cells #[.int .i64 3,.int .i64 0,.int .i64 0,.int .i64 0,.slice a1 2 c1] 39 (0,0)),(w.heap.size+1+1,Obj.cells #[.int .i64 3,.int .i64 0,.slice none 0 0,.int .i64 0,.int .i64 0,.int .i64 0,.int .i64 0,.slice (some ⟨w.heap.size+1,0,none⟩) 2 2,.slice none 0 0,.slice none 0 0] 51 (0,0)),(w.heap.size+1,Obj.cells #[.int .i64 0,.int .i64 1] 3 (0,0)),(w.heap.size,Obj.cells #[.string ⟨#[120]⟩,.int .i64 0,.int .i64 2,.string ⟨#[121]⟩,.int .i64 0,.int .i64 2] 49 (0,0))] u8):=K19.out.step hb8
  clear C8 hb8 K17 K18 K19 HO11 HO13 HP8 HP10 hV11 hV12 hVx HX;clear b0 b1 b2 b3 b4;obtain ⟨V13,hV13⟩:∃ V,u8.alloc (.cells #[.int .i64 2,.int .i64 0] 3)=V:=⟨_,rfl⟩;have zV13:V13.heap.size=u8.heap.size+1:=by
    have h:V13.heap.size=u8.heap.size+1:=by rw [<-hV13];exact Array.size_push _
    omega
  have hb13:Below u8.heap.size u8 V13:=by rw [<-hV13];exact (Below.refl _ _).alloc (Nat.le_refl _) _
  have K21:Hid (Keeps w [(u6.heap.size,Obj.cells wtK 55 (0,0)),(u4.heap.size,Obj.cells #[.int .i64 6,.int .i64 0,.int .i64 0,.int .i64 6,.slice none 0 0] 39 (0,0)),(u3.heap.size,Obj.cells #[.int .i64 4,.int .i64 0,.int .i64 (-2),.int .i64 0,.slice a2 2 c2] 39 (0,0)),(w.heap.size+1+1+1,Obj.cells #[.slice (some ⟨w.heap.size,0,none⟩) 2 2,.slice (some ⟨w.heap.size+1+1,0,none⟩) 1 1,.bool true,.slice (some ⟨u2.heap.size+1,0,none⟩) 1 1] 26 (0,0)),(u2.heap.size+1,Obj.cells #[.int .i64 (-1),.int .i64 0] 67 (0,0)),(u2.heap.size,Obj.cells #[.int .i64 3,.int .i64 0,.int .i64 0,.int .i64 0,.slice a1 2 c1] 39 (0,0)),(w.heap.size+1+1,Obj.cells #[.int .i64 3,.int .i64 0,.slice none 0 0,.int .i64 0,.int .i64 0,.int .i64 0,.int .i64 0,.slice (some ⟨w.heap.size+1,0,none⟩) 2 2,.slice none 0 0,.slice none 0 0] 51 (0,0)),(w.heap.size+1,Obj.cells #[.int .i64 0,.int .i64 1] 3 (0,0)),(w.heap.size,Obj.cells #[.string ⟨#[120]⟩,.int .i64 0,.int .i64 2,.string ⟨#[121]⟩,.int .i64 0,.int .i64 2] 49 (0,0))] V13):=K20.out.step hb13
  have gi13:V13.heap[u8.heap.size]?=some (.cells #[.int .i64 2,.int .i64 0] 3 (0,0)):=by rw [<-hV13];exact heap_alloc_new u8 _
  have C9:=same_vd 4 (-2) 0 _ _ [2,0] V13 (own_mints (x:=[2,0]) (own_step HP11.out hb13)) (at_ints 2 0 gi13);unfold vdC at C9;have b0:=cell_of (K20.out.get 2 rfl) 0;have b1:=cell_of (K20.out.get 2 rfl) 1;have b2:=cell_of (K20.out.get 2 rfl) 2;have b3:=cell_of (K20.out.get 2 rfl) 3;have b4:=cell_of (K20.out.get 2 rfl) 4;dsimp at b0 b1 b2 b3 b4;clear hb13 gi13;go_wp2_with fail
  refine calls_at C9 (by with_reducible rfl) (by with_reducible rfl) ?_;rintro e u9 ⟨rfl,hb9⟩
  have K22:Hid (Keeps w [(u6.heap.size,Obj.cells wtK 55 (0,0)),(u4.heap.size,Obj.cells #[.int .i64 6,.int .i64 0,.int .i64 0,.int .i64 6,.slice none 0 0] 39 (0,0)),(u3.heap.size,Obj.cells #[.int .i64 4,.int .i64 0,.int .i64 (-2),.int .i64 0,.slice a2 2 c2] 39 (0,0)),(w.heap.size+1+1+1,Obj.cells #[.slice (some ⟨w.heap.size,0,none⟩) 2 2,.slice (some ⟨w.heap.size+1+1,0,none⟩) 1 1,.bool true,.slice (some ⟨u2.heap.size+1,0,none⟩) 1 1] 26 (0,0)),(u2.heap.size+1,Obj.cells #[.int .i64 (-1),.int .i64 0] 67 (0,0)),(u2.heap.size,Obj.cells #[.int .i64 3,.int .i64 0,.int .i64 0,.int .i64 0,.slice a1 2 c1] 39 (0,0)),(w.heap.size+1+1,Obj.cells #[.int .i64 3,.int .i64 0,.slice none 0 0,.int .i64 0,.int .i64 0,.int .i64 0,.int .i64 0,.slice (some ⟨w.heap.size+1,0,none⟩) 2 2,.slice none 0 0,.slice none 0 0] 51 (0,0)),(w.heap.size+1,Obj.cells #[.int .i64 0,.int .i64 1] 3 (0,0)),(w.heap.size,Obj.cells #[.string ⟨#[120]⟩,.int .i64 0,.int .i64 2,.string ⟨#[121]⟩,.int .i64 0,.int .i64 2] 49 (0,0))] u9):=K21.out.step hb9
  clear C9 hb9 K20 K21 HP11 hV13;clear b0 b1 b2 b3 b4;have b0:=cell_of (K22.out.get 0 rfl) 0;have b1:=cell_of (K22.out.get 0 rfl) 1;have b2:=cell_of (K22.out.get 0 rfl) 2;have b3:=cell_of (K22.out.get 0 rfl) 3;have b4:=cell_of (K22.out.get 0 rfl) 4;have b5:=cell_of (K22.out.get 0 rfl) 5;dsimp [wtK] at b0 b1 b2 b3 b4 b5;go_wp2_with fail
  go_ret;exact ⟨rfl,K22.out.1⟩
end Go.Proofs.YtjgghimjnbjlbaaGreatDoor

namespace Go.Proofs.YtjgghimjnbjlbaaGreatDoor
open Go Go.RowKit
set_option maxRecDepth 100000
set_option maxHeartbeats 8000000
attribute [local go_sem] Oper.semAt_some
def moreOf (m:Md.Mo) (c:Md.Cn):Md.Mo:={ m with cons:=m.cons++[c] }
theorem more_le (m:Md.Mo) (c:Md.Cn) (h1:(Md.product m 100000).2=true) (h2:(Md.product (moreOf m c) 100000).2=true):((allSols (moreOf m c)).length:Int)<=((allSols m).length:Int):=by
  unfold allSols;rw [if_pos h1,if_pos h2];unfold solsL;rw [<-List.countP_eq_length_filter,<-List.countP_eq_length_filter];have:List.countP (holdsAll (moreOf m c)) (allV m.vars)<=List.countP (holdsAll m) (allV m.vars):=List.countP_mono_left fun x _ hx=>by
    unfold holdsAll moreOf at hx;rw [List.all_append,Bool.and_eq_true] at hx;exact hx.1
  exact Int.ofNat_le.2 this
theorem cown_more {B0 q B r:Nat} {w w':World} {v v':Value} {l:List Md.Cn} {xs:List Value} {c:Md.Cn} {vt vx vb vr:Value} (h:COwn B0 q B r w v l xs) (hq:l.length<=q) (hn:w'.ownsRow B 51 10 v' (l.length+1) (xs++cnCells c vt vx vb vr)) (ho:MOff (fun b=>b<B0∨ob v b∨b=r) w w') (hc:CnAt w' c vt vx vb vr) (hm:l.length+1<=maxLen):ConsAt w' v' (l++[c]):=by
  have hxl:xs.length=l.length*10:=h.own.1;rcases own_cells hn with ⟨rfl,h0⟩ | ⟨g,cap,rfl,_,hg,_,hcell⟩
  · omega
  · refine ⟨some ⟨g,0,none⟩,cap,by rw [List.length_append,List.length_singleton],by rw [List.length_append,List.length_singleton];exact hm,fun _=>⟨g,0,rfl,hg,fun j hj=>?_⟩⟩
    rw [List.length_append,List.length_singleton] at hj;rcases Nat.lt_or_ge j l.length with h1 | h1
    · obtain ⟨v1,v2,v3,v4,h2,h3⟩:=h.each j h1
      rw [List.getElem_append_left h1];have key:∀ i u,(cnCells l[j] v1 v2 v3 v4)[i]?=some u->w'.cell? ⟨g,0+j*10+i,none⟩=some u:=fun i u hi=>by
        have hi10:i<10:=(List.getElem?_eq_some_iff.1 hi).1;rw [Nat.zero_add];exact hcell _ _ (by rw [List.getElem?_append_left (by omega)];exact h2 i u hi)
      exact ⟨v1,v2,v3,v4,(h3.next (ho.less fun b hb=>hb.elim (fun hb=>.inl ⟨by omega,hb⟩) .inr)).at,key 0 _ rfl,key 1 _ rfl,key 2 _ rfl,key 3 _ rfl,key 4 _ rfl,key 5 _ rfl,key 6 _ rfl,key 7 _ rfl,key 8 _ rfl,key 9 _ rfl⟩
    · have e:j=l.length:=by omega
      subst e;have e1:(l++[c])[l.length]'(by simp)=c:=by simp
      rw [e1];have key:∀ i u,(cnCells c vt vx vb vr)[i]?=some u->w'.cell? ⟨g,0+l.length*10+i,none⟩=some u:=fun i u hi=>by
        rw [Nat.zero_add];exact hcell _ _ (by rw [List.getElem?_append_right (by omega),hxl,Nat.add_sub_cancel_left];exact hi)
      exact ⟨vt,vx,vb,vr,hc,key 0 _ rfl,key 1 _ rfl,key 2 _ rfl,key 3 _ rfl,key 4 _ rfl,key 5 _ rfl,key 6 _ rfl,key 7 _ rfl,key 8 _ rfl,key 9 _ rfl⟩
theorem more_box {W6 w7:World} {us:List Value} {e:TypeId} {row:Option Nat} {P:Nat} {cs:Array Value} {t:TypeId} {B:Nat} (hg:(W6.alloc (.cells us.toArray e)).grownBy w7 row) (hP:W6.heap[P]?=some (.cells cs t)) (hr:∀ k,row=some k->B<=k/\k<P):w7.heap[P]?=some (.cells cs t):=by
  have hl:=(Array.getElem?_eq_some_iff.1 hP).1;exact (hg.block P (by simp;omega) (fun e=>by have:=(hr P e.symm).2;omega)).trans ((Below.heap_alloc _ _ _ hl).trans hP)
structure MoreAt (w3 w4 W8:World) (m:Md.Mo) (c:Md.Cn) (vv vc vg:Value):Prop where
  below:Below w3.heap.size w3 W8
  mo:MoAt W8 (moreOf m c) vv vc vg
  box:W8.heap[w4.heap.size]?=some (.cells #[vv,vc,.bool m.has,vg] 26)
theorem more_at {w w3 w4 W6 w7 W8:World} {m:Md.Mo} {c:Md.Cn} {vv vc vg v7 vt vx vb vr:Value} {xs:List Value} (hW8:w7.setCell ⟨w4.heap.size,1,none⟩ v7=W8) (hB3:Below w.heap.size w w3) (h34:Below w3.heap.size w3 w4) (hO:COwn w3.heap.size m.cons.length w3.heap.size (w3.heap.size+1) w4 vc m.cons xs) (hV:Kept (fun b=>b<w3.heap.size∨ob vc b∨b=w3.heap.size+1) w4 (fun w2=>VarsAt w2 vv m.vars)) (hcap:∀ a n cp,vv=.slice a n cp->n<=cp) (hG:Kept (fun b=>b<w3.heap.size∨ob vc b∨b=w3.heap.size+1) w4 (fun w2=>TermsAt w2 vg m.goal))
    (h46:Below w4.heap.size w4 W6) (hs6:W6.heap.size=w4.heap.size+1) (hg:(W6.alloc (.cells (cnCells c vt vx vb vr).toArray 51)).grownBy w7 vc.ownBlock) (hP:w7.heap[w4.heap.size]?=some (.cells #[vv,vc,.bool m.has,vg] 26)) (ho:w7.ownsRow w3.heap.size 51 10 v7 (m.cons.length+1) (xs++cnCells c vt vx vb vr)) (hn:v7.ownBlock=vc.ownBlock∨v7.ownBlock=some (W6.heap.size+1)) (hC:∀ w',Below w.heap.size w w'->CnAt w' c vt vx vb vr) (hl:m.cons.length+1<=1000001):MoreAt w3 w4 W8 m c vv v7 vg:=by
  have hlt:=hO.own.lt;have s34:=h34.size;have b7:Below w3.heap.size w3 w7:=((h34.trans (h46.mono s34)).alloc (by omega) _).grown hg (by simp;omega) (fun k hk=>(hlt k hk).1);have b8:Below w3.heap.size w3 W8:=by rw [<-hW8];exact b7.setCell (by show w3.heap.size<=w4.heap.size;exact s34) _
  have bw8:Below w.heap.size w W8:=hB3.trans (b8.mono hB3.size);have o6:MOff (ob vc) w4 (W6.alloc (.cells (cnCells c vt vx vb vr).toArray 51)):=MOff.of_below (h46.alloc (by omega) _);have o7:MOff (ob vc) w4 w7:=o6.trans (MOff.grown hg fun k hk=>hk);have o8:MOff (ob vc) w4 W8:=by
    rw [<-hW8];exact o7.then (T:=fun b=>b=w4.heap.size) (MOff.setG _) (fun x hx=>by omega)
  have o8':MOff (fun b=>b<w3.heap.size∨ob vc b∨b=w3.heap.size+1) w4 W8:=o8.less fun _ h=>.inr (.inl h)
  have n8:W8.ownsRow w3.heap.size 51 10 v7 (m.cons.length+1) (xs++cnCells c vt vx vb vr):=by
    rw [<-hW8];refine mown_off ho (fun g hg e=>?_) (MOff.setG _);rcases hn with h1 | h1
    · rw [h1] at hg;have:=(hlt g hg).2;omega
    · rw [h1] at hg;injection hg with hg;omega
  obtain ⟨av,nv,rfl⟩:=mown_form ho;refine ⟨b8,⟨hV W8 o8',hcap,cown_more hO (Nat.le_refl _) n8 o8' (hC W8 bw8) (by unfold maxLen;omega),hG W8 o8'⟩,?_⟩;rw [<-hW8];exact heap_setCell_same w7 _ 1 _ 26 _ hP
theorem infMo:(Tryz.prog.info? 26).map (·.size)=some 4:=by kernel_rfl
theorem room_few {m:Md.Mo} (h:costM m<=20000):(m.vars.length<=4398046511104/\m.cons.length<=977343669134/\m.goal.length<=8796093022208)/\∀ c∈m.cons,c.terms.length<=8796093022208/\c.xs.length<=17592186044416/\c.table.length<=17592186044416/\c.rows.length<=5864062014805/\∀ r∈c.rows,r.length<=17592186044416:=by
  have hr:=cost_room h;exact ⟨⟨Nat.le_trans hr.1.1 (by decide),Nat.le_trans hr.1.2.1 (by decide),Nat.le_trans hr.1.2.2 (by decide)⟩,fun c hc=>⟨Nat.le_trans (hr.2 c hc).1 (by decide),Nat.le_trans (hr.2 c hc).2.1 (by decide),Nat.le_trans (hr.2 c hc).2.2.1 (by decide),Nat.le_trans (hr.2 c hc).2.2.2.1 (by decide),fun r h=>Nat.le_trans ((hr.2 c hc).2.2.2.2 r h) (by decide)⟩⟩
theorem more_any (m:Md.Mo) (vv vc vg:Value) (c:Md.Cn) (vt vx vb vr:Value) (w:World) (h:MoAt w m vv vc vg) (hC:CnAt w c vt vx vb vr) (hg:Gl w):Calls Tryz.prog 5 #[moVal m vv vc vg,cnVal c vt vx vb vr] w fun e w'=>e=.returned (.bool true)/\Below w.heap.size w w':=by
  obtain ⟨va,vp,rfl,hvm⟩:=h.v.form;obtain ⟨ca,cp,rfl,hcm⟩:=h.c.form;obtain ⟨ga,gp,rfl,hgm⟩:=h.g.form;obtain ⟨ta,tc,rfl,_⟩:=hC.t.form;obtain ⟨xa,xc,rfl,_⟩:=hC.x.form;obtain ⟨ba,bc,rfl,_⟩:=hC.b.form;obtain ⟨ra,rc,rfl,_⟩:=hC.r.form;obtain ⟨W,hW⟩:∃ W,(w.alloc (.cells #[.slice va m.vars.length vp,.slice ca m.cons.length cp,.bool m.has,.slice ga m.goal.length gp] 26)).alloc (.cells #[.int .i64 c.kind,.int .i64 c.op,.slice ta c.terms.length tc,.int .i64 c.k,.int .i64 c.v,.int .i64 c.x,.int .i64 c.y,.slice xa c.xs.length xc,.slice ba c.table.length bc,.slice ra c.rows.length rc] 51)=W:=⟨_,rfl⟩;have hbW:Below w.heap.size w W:=by rw [<-hW];exact ((Below.refl _ _).alloc (Nat.le_refl _) _).alloc (by simp) _
  have hN:W.heap[w.heap.size]?=some (.cells #[.slice va m.vars.length vp,.slice ca m.cons.length cp,.bool m.has,.slice ga m.goal.length gp] 26):=by
    rw [<-hW,Below.heap_alloc _ _ _ (by simp)];exact heap_alloc_new w _
  have hN1:W.heap[w.heap.size+1]?=some (.cells #[.int .i64 c.kind,.int .i64 c.op,.slice ta c.terms.length tc,.int .i64 c.k,.int .i64 c.v,.int .i64 c.x,.int .i64 c.y,.slice xa c.xs.length xc,.slice ba c.table.length bc,.slice ra c.rows.length rc] 51):=by
    rw [<-hW];have:=heap_alloc_new (w.alloc (.cells #[.slice va m.vars.length vp,.slice ca m.cons.length cp,.bool m.has,.slice ga m.goal.length gp] 26)) (.cells #[.int .i64 c.kind,.int .i64 c.op,.slice ta c.terms.length tc,.int .i64 c.k,.int .i64 c.v,.int .i64 c.x,.int .i64 c.y,.slice xa c.xs.length xc,.slice ba c.table.length bc,.slice ra c.rows.length rc] 51);simpa using this
  have hWs:W.heap.size=w.heap.size+2:=by rw [<-hW];simp
  have HB:Hid (Below w.heap.size w W):=hbW;have HM:Hid (∀ w',Below w.heap.size w w'->MoAt w' m (.slice va m.vars.length vp) (.slice ca m.cons.length cp) (.slice ga m.goal.length gp)):=fun w' hb=>h.below hb
  have HCc:Hid (∀ w',Below w.heap.size w w'->CnAt w' c (.slice ta c.terms.length tc) (.slice xa c.xs.length xc) (.slice ba c.table.length bc) (.slice ra c.rows.length rc)):=fun w' hb=>hC.below hb
  have HN:Hid (∀ w',Below W.heap.size W w'->w'.heap[w.heap.size]?=some (.cells #[.slice va m.vars.length vp,.slice ca m.cons.length cp,.bool m.has,.slice ga m.goal.length gp] 26)):=fun w' hb=>(hb.block _ (by omega)).trans hN
  have HN1:Hid (∀ w',Below W.heap.size W w'->w'.heap[w.heap.size+1]?=some (.cells #[.int .i64 c.kind,.int .i64 c.op,.slice ta c.terms.length tc,.int .i64 c.k,.int .i64 c.v,.int .i64 c.x,.int .i64 c.y,.slice xa c.xs.length xc,.slice ba c.table.length bc,.slice ra c.rows.length rc] 51)):=fun w' hb=>(hb.block _ (by omega)).trans hN1
  have HG:Hid (∀ W,Below w.heap.size w W->Gl W):=fun W hb=>hg.next hb
  have HFew:Hid (Calls Tryz.prog 7 #[.agg #[.slice va m.vars.length vp,.slice ca m.cons.length cp,.bool m.has,.slice ga m.goal.length gp]] W fun e w'=>∃ b,e=.returned (.bool b)/\(b=true->costM m<=20000)/\Below W.heap.size W w'):=few_any m _ _ _ W (h.below hbW);obtain ⟨⟨p0,p1,p2,p3⟩,_⟩:=box4 hN;unfold moVal cnVal;clear h hC hbW hN hN1 hWs hg hvm hcm hgm;go_enter Tryz.func5,Tryz.ntmps5;go_wp2_with fail
  refine mcalls_at HFew.out (by with_reducible rfl) (by with_reducible rfl) ?_;rintro e w1 ⟨bf,rfl,hcost,hb1⟩;have HT1:Hid (Below W.heap.size W w1):=hb1;clear hb1 HFew p0 p1 p2 p3 hW
  cases bf
  · go_wp2_with fail
    go_ret;exact ⟨rfl,HB.out.trans (HT1.out.mono HB.out.size)⟩
  have HCost:Hid (costM m<=20000):=hcost rfl;clear hcost;have HK:Hid (Calls Tryz.prog 8 #[] w1 fun e w'=>e=.returned (.bool true)/\Below w1.heap.size w1 w'):=known_any w1 (HG.out w1 (HB.out.trans (HT1.out.mono HB.out.size)));go_wp2_with fail
  refine mcalls_at HK.out (by with_reducible rfl) (by with_reducible rfl) ?_;rintro e w3 ⟨rfl,hb3⟩;have HT3:Hid (Below W.heap.size W w3):=HT1.out.trans (hb3.mono HT1.out.size);clear hb3 HT1 HK HG;have HBw3:Hid (Below w.heap.size w w3):=HB.out.trans (HT3.out.mono HB.out.size);obtain ⟨⟨p0,p1,p2,p3⟩,_⟩:=box4 (HN.out w3 HT3.out);have HCopy:Hid (Calls Tryz.prog 19 #[.agg #[.slice va m.vars.length vp,.slice ca m.cons.length cp,.bool m.has,.slice ga m.goal.length gp]] w3 (CpMOut w3 m)):=copy_any m _ _ _ w3 (HM.out w3 HBw3.out) (room_few HCost.out).1 (room_few HCost.out).2;go_wp2_with fail
  refine mcalls_at HCopy.out (by with_reducible rfl) (by with_reducible rfl) ?_;rintro e w4 ⟨vv',vc',vg',xs,rfl,hb4,hO4,hV4,hcap4,hG4⟩;obtain ⟨va2,vp2,rfl,_⟩:=hV4.now.form;obtain ⟨ca2,cp2,rfl⟩:=mown_form hO4.own;obtain ⟨ga2,gp2,rfl,_⟩:=hG4.now.form;have HT4:Hid (Below W.heap.size W w4):=HT3.out.trans (hb4.mono HT3.out.size);have HO4:Hid (COwn w3.heap.size m.cons.length w3.heap.size (w3.heap.size+1) w4 (.slice ca2 m.cons.length cp2) m.cons xs):=hO4;have HV4:Hid (Kept (fun b=>b<w3.heap.size∨ob (.slice ca2 m.cons.length cp2) b∨b=w3.heap.size+1) w4 (fun w2=>VarsAt w2 (.slice va2 m.vars.length vp2) m.vars)):=hV4;have HG4:Hid (Kept (fun b=>b<w3.heap.size∨ob (.slice ca2 m.cons.length cp2) b∨b=w3.heap.size+1) w4 (fun w2=>TermsAt w2 (.slice ga2 m.goal.length gp2) m.goal)):=hG4
  have HC4:Hid (∀ a n cp,Value.slice va2 m.vars.length vp2=.slice a n cp->n<=cp):=hcap4;have HB34:Hid (Below w3.heap.size w3 w4):=hb4;clear hb4 hO4 hV4 hcap4 hG4 HCopy p0 p1 p2 p3;obtain ⟨V,hV⟩:∃ V,w4.alloc (.cells #[.slice none 0 0,.slice none 0 0,.bool false,.slice none 0 0] 26)=V:=⟨_,rfl⟩;have h0:V.heap[w4.heap.size]?=some (.cells #[.slice none 0 0,.slice none 0 0,.bool false,.slice none 0 0] 26 (0,0)):=by rw [<-hV];exact heap_alloc_new w4 _
  have hbV:Below w4.heap.size w4 V:=by rw [<-hV];exact (Below.refl _ _).alloc (Nat.le_refl _) _
  have hsV:V.heap.size=w4.heap.size+1:=by rw [<-hV];exact Array.size_push _
  obtain ⟨W6,hW6⟩:∃ W6,V.setRow w4.heap.size #[.slice va2 m.vars.length vp2,.slice ca2 m.cons.length cp2,.bool m.has,.slice ga2 m.goal.length gp2]=W6:=⟨_,rfl⟩;have hP6:W6.heap[w4.heap.size]?=some (.cells #[.slice va2 m.vars.length vp2,.slice ca2 m.cons.length cp2,.bool m.has,.slice ga2 m.goal.length gp2] 26 (0,0)):=by rw [<-hW6];exact setRow_heap V _ _ _ _ _ h0
  have hs6:W6.heap.size=w4.heap.size+1:=by rw [<-hW6,<-hsV];simp [World.setRow]
  have hb6:Below w4.heap.size w4 W6:=by rw [<-hW6];exact hbV.trans ⟨rfl,rfl,rfl,by simp [World.setRow],fun k hk=>setRow_other V _ k _ (by omega)⟩
  have H0:Hid (V.heap[w4.heap.size]?=some (.cells #[.slice none 0 0,.slice none 0 0,.bool false,.slice none 0 0] 26 (0,0))):=h0;have HT6:Hid (Below W.heap.size W W6):=HT4.out.trans (hb6.mono HT4.out.size);have HB46:Hid (Below w4.heap.size w4 W6):=hb6;have HP6:Hid (W6.heap[w4.heap.size]?=some (.cells #[.slice va2 m.vars.length vp2,.slice ca2 m.cons.length cp2,.bool m.has,.slice ga2 m.goal.length gp2] 26)):=hP6;have HS6:Hid (W6.heap.size=w4.heap.size+1):=hs6;have HO6:Hid (W6.ownsRow w3.heap.size 51 10 (.slice ca2 m.cons.length cp2) m.cons.length xs):=(HO4.out.next hb6).own;obtain ⟨⟨q0,q1,q2,q3,q4,q5,q6,q7,q8,q9⟩,_⟩:=box10 (HN1.out W6 HT6.out);obtain ⟨⟨z0,z1,z2,z3⟩,hz⟩:=box4 hP6;have HCl:Hid (m.cons.length<=20000):=(cost_room HCost.out).1.2.1;have hcl:m.cons.length<=20000:=HCl.out
  have HOne:Hid (∀ u∈([.int .i64 c.kind,.int .i64 c.op,.slice ta c.terms.length tc,.int .i64 c.k,.int .i64 c.v,.int .i64 c.x,.int .i64 c.y,.slice xa c.xs.length xc,.slice ba c.table.length bc,.slice ra c.rows.length rc]:List Value),u.oneCell'=true):=by
    intro u hu;simp only [List.mem_cons,List.not_mem_nil,or_false] at hu
    rcases hu with rfl | rfl | rfl | rfl | rfl | rfl | rfl | rfl | rfl | rfl <;> rfl
  have h36:w3.heap.size<=W6.heap.size:=by have:=HB34.out.size;omega
  clear h0 hbV hsV hP6 hs6 hb6;have HZ:Hid (∀ j,W6.frozen? ⟨w4.heap.size,j,none⟩=false):=hz;clear hz
  go_wp2_with (first
    | (refine wpList_store_row rfl 26 (.tmp 5) (.tmp 16) rfl w4.heap.size #[.slice va2 m.vars.length vp2,.slice ca2 m.cons.length cp2,.bool m.has,.slice ga2 m.goal.length gp2] (by rfl) (by rfl) 26 #[.slice none 0 0,.slice none 0 0,.bool false,.slice none 0 0] H0.out infMo rfl (by simp [Value.oneCell']) ?_;rw [hW6])
    | (at_builtin;refine mappend_els W6 [.int .i64 c.kind,.int .i64 c.op,.slice ta c.terms.length tc,.int .i64 c.k,.int .i64 c.v,.int .i64 c.x,.int .i64 c.y,.slice xa c.xs.length xc,.slice ba c.table.length bc,.slice ra c.rows.length rc] 10 rfl (by decide) rfl (.tmp 18) (.tmp 20) 23 51 (.agg #[.int .i64 0,.int .i64 0,.slice none 0 0,.int .i64 0,.int .i64 0,.int .i64 0,.int .i64 0,.slice none 0 0,.slice none 0 0,.slice none 0 0]) 144 rfl und23' info40' rfl w3.heap.size _ _ _ (by rfl) HO6.out HOne.out _ rfl (by rfl) (by unfold maxLen;omega) (by omega) h36 ?_;intro v7 w7 ho7 hg7 hn7;obtain ⟨a7,c7,rfl⟩:=mown_form ho7;have hP7:w7.heap[w4.heap.size]?=some (.cells #[.slice va2 m.vars.length vp2,.slice ca2 m.cons.length cp2,.bool m.has,.slice ga2 m.goal.length gp2] 26):=more_box hg7 HP6.out HO4.out.own.lt;obtain ⟨W8,hW8⟩:∃ W8,w7.setCell ⟨w4.heap.size,1,none⟩ (.slice a7 (m.cons.length+1) c7)=W8:=⟨_,rfl⟩;have HQ8:Hid (MoreAt w3 w4 W8 m c (.slice va2 m.vars.length vp2) (.slice a7 (m.cons.length+1) c7) (.slice ga2 m.goal.length gp2)):=more_at hW8 HBw3.out HB34.out HO4.out HV4.out HC4.out HG4.out HB46.out HS6.out hg7 hP7 ho7 hn7 HCc.out (by omega);have y1:=cell_of hP7 1;have yz:=frozen_of hP7 1;dsimp at y1;have HX8:=HQ8.out.box;have x0:=cell_of HX8 0;have x1:=cell_of HX8 1;have x2:=cell_of HX8 2;have x3:=cell_of HX8 3;dsimp at x0 x1 x2 x3;clear ho7 hg7 hn7 hP7 HX8))
  clear H0 HO6 HOne HP6 HB46 HS6 HO4 HV4 HG4 HC4 hcl h36 HCl HN1 HCc q0 q1 q2 q3 q4 q5 q6 q7 q8 q9 z0 z1 z2 z3 HZ y1 yz hV hW6;have HFe2:Hid (Calls Tryz.prog 7 #[.agg #[.slice va2 m.vars.length vp2,.slice a7 (m.cons.length+1) c7,.bool m.has,.slice ga2 m.goal.length gp2]] W8 fun e w'=>∃ b,e=.returned (.bool b)/\(b=true->costM (moreOf m c)<=20000)/\Below W8.heap.size W8 w'):=few_any (moreOf m c) _ _ _ W8 HQ8.out.mo;refine mcalls_at HFe2.out (by with_reducible rfl) (by with_reducible rfl) ?_;rintro e w9 ⟨bf,rfl,_,hb9⟩;have HB8:Hid (Below w.heap.size w W8):=HBw3.out.trans (HQ8.out.below.mono HBw3.out.size);have HT8:Hid (Below W.heap.size W W8):=HT3.out.trans (HQ8.out.below.mono HT3.out.size)
  have HX9:Hid (Below w.heap.size w w9/\Below W.heap.size W w9/\MoAt w9 (moreOf m c) (.slice va2 m.vars.length vp2) (.slice a7 (m.cons.length+1) c7) (.slice ga2 m.goal.length gp2)/\w9.heap[w4.heap.size]?=some (.cells #[.slice va2 m.vars.length vp2,.slice a7 (m.cons.length+1) c7,.bool m.has,.slice ga2 m.goal.length gp2] 26)):=⟨HB8.out.trans (hb9.mono HB8.out.size),HT8.out.trans (hb9.mono HT8.out.size),HQ8.out.mo.below hb9,(hb9.block _ (Array.getElem?_eq_some_iff.1 HQ8.out.box).1).trans HQ8.out.box⟩;clear hb9 HFe2 HQ8 HB8 HT8 HT6 HT4 HT3 HBw3 HB34 x0 x1 x2 x3
  cases bf
  · go_wp2_with fail
    go_ret;exact ⟨rfl,HX9.out.1⟩
  obtain ⟨⟨p0,p1,p2,p3⟩,_⟩:=box4 (HN.out w9 HX9.out.2.1);have HCn:Hid (Calls Tryz.prog 11 #[.agg #[.slice va m.vars.length vp,.slice ca m.cons.length cp,.bool m.has,.slice ga m.goal.length gp]] w9 fun e w'=>e=.returned (.tuple #[.int .i64 ((allSols m).length:Int),.bool (Md.product m 100000).2])/\Below w9.heap.size w9 w'):=au_count m _ _ _ w9 (HM.out w9 HX9.out.1);go_wp2_with fail
  refine mcalls_at HCn.out (by with_reducible rfl) (by with_reducible rfl) ?_;rintro e w10 ⟨rfl,hb10⟩;have HX10:Hid (Below w.heap.size w w10/\MoAt w10 (moreOf m c) (.slice va2 m.vars.length vp2) (.slice a7 (m.cons.length+1) c7) (.slice ga2 m.goal.length gp2)/\w10.heap[w4.heap.size]?=some (.cells #[.slice va2 m.vars.length vp2,.slice a7 (m.cons.length+1) c7,.bool m.has,.slice ga2 m.goal.length gp2] 26)):=⟨HX9.out.1.trans (hb10.mono HX9.out.1.size),HX9.out.2.2.1.below hb10,(hb10.block _ (Array.getElem?_eq_some_iff.1 HX9.out.2.2.2).1).trans HX9.out.2.2.2⟩;clear hb10 HCn HX9 p0 p1 p2 p3
  have HC2:Hid (Calls Tryz.prog 11 #[.agg #[.slice va2 m.vars.length vp2,.slice a7 (m.cons.length+1) c7,.bool m.has,.slice ga2 m.goal.length gp2]] w10 fun e w'=>e=.returned (.tuple #[.int .i64 ((allSols (moreOf m c)).length:Int),.bool (Md.product (moreOf m c) 100000).2])/\Below w10.heap.size w10 w'):=au_count (moreOf m c) _ _ _ w10 HX10.out.2.1;obtain ⟨⟨p0,p1,p2,p3⟩,_⟩:=box4 HX10.out.2.2;have HLe:Hid ((Md.product m 100000).2=true->(Md.product (moreOf m c) 100000).2=true->((allSols (moreOf m c)).length:Int)<=((allSols m).length:Int)):=more_le m c;obtain ⟨n1,hn1⟩:∃ n:Int,((allSols m).length:Int)=n:=⟨_,rfl⟩;obtain ⟨n2,hn2⟩:∃ n:Int,((allSols (moreOf m c)).length:Int)=n:=⟨_,rfl⟩;obtain ⟨b1,hb1⟩:∃ b,(Md.product m 100000).2=b:=⟨_,rfl⟩;obtain ⟨b2,hb2⟩:∃ b,(Md.product (moreOf m c) 100000).2=b:=⟨_,rfl⟩
  rw [hn1,hn2,hb1,hb2] at HLe;rw [hn2,hb2] at HC2;rw [hn1,hb1];clear hn1 hn2 hb1 hb2;go_wp2_with fail
  refine mcalls_at HC2.out (by with_reducible rfl) (by with_reducible rfl) ?_;rintro e w11 ⟨rfl,hb11⟩;have HX11:Hid (Below w.heap.size w w11):=HX10.out.1.trans (hb11.mono HX10.out.1.size);clear hb11 HC2 HX10 p0 p1 p2 p3
  cases b1 with
  | false =>
    go_wp2_with fail
    go_ret;exact ⟨rfl,HX11.out⟩
  | true =>
    cases b2 with
    | false =>
      go_wp2_with fail
      go_ret;exact ⟨rfl,HX11.out⟩
    | true =>
      have hle:n2<=n1:=HLe.out rfl rfl;go_wp2_with fail
      go_ret;exact ⟨rfl,HX11.out⟩
end Go.Proofs.YtjgghimjnbjlbaaGreatDoor
