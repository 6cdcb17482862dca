/-
  Put together: AuAnswer, AuSame, AuKn, AuKm, AuKnow, AtInts, AtMath.
-/
import Derived.Test.YtjgghimjnbjlbaaGreatDoorJ04
import Derived.Test.YtjgghimjnbjlbaaGreatDoorJ48
import Derived.Test.YtjgghimjnbjlbaaGreatDoorAwProg
import Derived.BigQuiet
namespace Go.Proofs.YtjgghimjnbjlbaaGreatDoor
open Go Go.RowKit Go.Shelf Go.Lib
set_option maxRecDepth 10000
set_option maxHeartbeats 8000000
attribute [local go_sem] Oper.semAt_some
def VdO (d:Int × Int × List Int) (w:World) (e:Ending) (W:World):Prop:=Below w.heap.size w W/\∃ v B,e=.returned (.agg (vdC d.1 d.2.1 0 v))/\w.heap.size<=B/\W.ownsRow B 3 1 v d.2.2.length (d.2.2.map (.int .i64))
def lstD (m:Md.Mo):Int × Int × List Int:=match bst m (yt m) with
  | none=>(2,0,[])
  | some (b,y)=>(4,b,y)
def fstD (m:Md.Mo):Int × Int × List Int:=match yt m with
  | []=>(2,0,[])
  | x :: _=>(3,0,x)
def ansD (m:Md.Mo):Int × Int × List Int:=if m.has=true then lstD m else fstD m
theorem XJ (w:World) (B:Nat):w.ownsRow B 3 1 (.slice none 0 0) 0 []:=⟨rfl,.inl ⟨rfl,rfl⟩⟩
theorem Yy {w:World} {B:Nat} {v:Value} {n:Nat} {xs:List Value} (h:w.ownsRow B 3 1 v n xs):∃ a c,v=.slice a n c:=by
  rcases h.2 with ⟨rfl,h0⟩ | ⟨g',cap,cur,rfl,_⟩
  · exact ⟨none,0,by rw [h0]⟩
  · exact ⟨_,_,rfl⟩
theorem y1i (m:Md.Mo) (vv vc vg:Value) (w:World) (h:MoAt w m vv vc vg):Calls Tryz.prog 35 #[yp m vv vc vg] w (VdO (fstD m) w):=by
  refine (y1j m vv vc vg w h).mono ?_;rintro e W ⟨hb,h | ⟨x,q,v,B,h1,h2,h3,h4⟩⟩
  · refine ⟨hb,.slice none 0 0,w.heap.size,?_,Nat.le_refl _,?_⟩ <;> unfold fstD <;> rw [h.1]
    · exact h.2
    · exact XJ _ _
  · refine ⟨hb,v,B,?_,h3,?_⟩ <;> unfold fstD <;> rw [h1]
    · exact h2
    · exact h4
theorem y1k (m:Md.Mo) (vv vc vg:Value) (w:World) (h:MoAt w m vv vc vg):Calls Tryz.prog 34 #[yp m vv vc vg] w (VdO (lstD m) w):=by
  refine (y1l m vv vc vg w h).mono ?_;rintro e W ⟨hb,h⟩;refine ⟨hb,?_⟩;unfold lstD
  cases hh:bst m (yt m) with
  | none=>rw [hh] at h;exact ⟨_,w.heap.size,h,Nat.le_refl _,XJ _ _⟩
  | some o =>
    obtain ⟨b,y⟩:=o;rw [hh] at h;exact h
def AnO (m:Md.Mo) (w:World) (e:Ending) (W:World):Prop:=Below w.heap.size w W/\(((Md.product m 100000).2=false/\e=.returned (.tuple #[.agg #[.int .i64 0,.int .i64 0,.int .i64 0,.int .i64 0,.slice none 0 0],.bool false])) ∨
  ((Md.product m 100000).2=true/\∃ v B,e=.returned (.tuple #[.agg (vdC (ansD m).1 (ansD m).2.1 0 v),.bool true])/\w.heap.size<=B/\W.ownsRow B 3 1 v (ansD m).2.2.length ((ansD m).2.2.map (.int .i64))))
theorem Zi (m:Md.Mo) (vv vc vg:Value) (w:World) (h:MoAt w m vv vc vg):Calls Tryz.prog 12 #[yp m vv vc vg] w (AnO m w):=by
  obtain ⟨va,vp,rfl,hvm⟩:=h.v.form;obtain ⟨ca,cp,rfl,hcm⟩:=h.c.form;obtain ⟨ga,gp,rfl,hgm⟩:=h.g.form;obtain ⟨W1,hW1⟩:∃ W,w.alloc (.cells #[.slice va m.vars.length vp,.slice ca m.cons.length cp,.bool m.has,.slice ga m.goal.length gp] 26)=W:=⟨_,rfl⟩;have g1:W1.heap[w.heap.size]?=some (.cells #[.slice va m.vars.length vp,.slice ca m.cons.length cp,.bool m.has,.slice ga m.goal.length gp] 26 (0,0)):=hAe hW1;have b1:Below w.heap.size w W1:=bAe hW1;have z1:W1.heap.size=w.heap.size+1:=by rw [<-hW1];exact Array.size_push _
  obtain ⟨W2,hW2⟩:∃ W,W1.alloc (.cells #[.int .i64 0,.int .i64 0,.int .i64 0,.int .i64 0,.slice none 0 0] 39)=W:=⟨_,rfl⟩;have g2:W2.heap[w.heap.size+1]?=some (.cells #[.int .i64 0,.int .i64 0,.int .i64 0,.int .i64 0,.slice none 0 0] 39 (0,0)):=by rw [<-hW2,<-z1];exact heap_alloc_new W1 _
  have b2:Below w.heap.size w W2:=by rw [<-hW2];exact b1.alloc (by omega) _
  have z2:W2.heap.size=w.heap.size+2:=by
    have h:W2.heap.size=W1.heap.size+1:=by rw [<-hW2];exact Array.size_push _
    omega
  have m2:W2.heap[w.heap.size]?=some (.cells #[.slice va m.vars.length vp,.slice ca m.cons.length cp,.bool m.has,.slice ga m.goal.length gp] 26 (0,0)):=by rw [<-hW2];exact (Below.heap_alloc _ _ _ (by omega)).trans g1
  have p0:=yb m2 0;have p1:=yb m2 1;have p2:=yb m2 2;have p3:=yb m2 3;dsimp at p0 p1 p2 p3;have HW2:Hid (Below w.heap.size w W2):=b2;have HZW:Hid (W2.heap.size=w.heap.size+2):=z2;have HGW:Hid (W2.heap[w.heap.size+1]?=some (.cells #[.int .i64 0,.int .i64 0,.int .i64 0,.int .i64 0,.slice none 0 0] 39 (0,0))):=g2;have HMW:Hid (W2.heap[w.heap.size]?=some (.cells #[.slice va m.vars.length vp,.slice ca m.cons.length cp,.bool m.has,.slice ga m.goal.length gp] 26 (0,0))):=m2;have hC:=Ys m _ _ _ W2 (h.below b2);have HMo:Hid (∀ W,Below w.heap.size w W->MoAt W m (.slice va m.vars.length vp) (.slice ca m.cons.length cp) (.slice ga m.goal.length gp)):=fun W hb=>h.below hb
  unfold yp at hC ⊢;clear h g1 b1 g2 b2 m2
  cases hs:(Md.product m 100000).2 with
  | false =>
    rw [hs] at hC;go_enter Tryz.func12,Tryz.ntmps12;go_wp2_with (go_at_call 28;refine hC.mono ?_;rintro e w2 ⟨rfl,hb2⟩;have HB2:Hid (Below W2.heap.size W2 w2):=hb2;have HR2:Hid (w2.heap[w.heap.size+1]?=some (.cells #[.int .i64 0,.int .i64 0,.int .i64 0,.int .i64 0,.slice none 0 0] 39 (0,0))):=(hb2.block _ (by have:=HZW.out;omega)).trans HGW.out;have d0:=yb HR2.out 0;have d1:=yb HR2.out 1;have d2:=yb HR2.out 2;have d3:=yb HR2.out 3;have d4:=yb HR2.out 4;have e0:=yl HR2.out 0;have e1:=yl HR2.out 1;have e2:=yl HR2.out 2;have e3:=yl HR2.out 3;have e4:=yl HR2.out 4;dsimp at d0 d1 d2 d3 d4;clear hb2);have z2:=HZW.out;have hg5:=zE HR2.out (.int .i64 0) (.int .i64 0) (.int .i64 0) (.int .i64 0) (.slice none 0 0)
    have hb5:=zM (HW2.out.trans (HB2.out.mono (by omega))) (w.heap.size+1) (by omega) (.int .i64 0) (.int .i64 0) (.int .i64 0) (.int .i64 0) (.slice none 0 0);exact bodyPost_ret (xS Tryz.results12 _ _ (w.heap.size+1) 39 #[.int .i64 0,.int .i64 0,.int .i64 0,.int .i64 0,.slice none 0 0] (0,0) _ rfl hg5 Tryz.underlying39 rfl infV) rfl ⟨hb5,.inl ⟨hs,rfl⟩⟩
  | true =>
    rw [hs] at hC;have HS:Hid ((Md.product m 100000).2=true):=hs;clear hs
    cases hh:m.has with
    | true =>
      have hD:ansD m=lstD m:=by unfold ansD;rw [hh];rfl
      have hL:∀ W,Below w.heap.size w W->Calls Tryz.prog 34 #[.agg #[.slice va m.vars.length vp,.slice ca m.cons.length cp,.bool true,.slice ga m.goal.length gp]] W (VdO (lstD m) W):=fun W hb=>by
        have:=y1k m _ _ _ W (HMo.out W hb);unfold yp at this
        rwa [hh] at this
      obtain ⟨⟨k,wo,y⟩,hd⟩:∃ d,lstD m=d:=⟨_,rfl⟩;have HD:Hid (ansD m=(k,wo,y)):=hD.trans hd;rw [hd] at hL;have HL:Hid (∀ W,Below w.heap.size w W->Calls Tryz.prog 34 #[.agg #[.slice va m.vars.length vp,.slice ca m.cons.length cp,.bool true,.slice ga m.goal.length gp]] W (VdO (k,wo,y) W)):=hL;rw [hh] at hC p2 HMW hW1;clear hD hd hL HMo hh;go_enter Tryz.func12,Tryz.ntmps12
      go_wp2_with (first | (go_at_call 28;refine hC.mono ?_;rintro e w2 ⟨rfl,hb2⟩;have HB2:Hid (Below W2.heap.size W2 w2):=hb2;have HR2:Hid (w2.heap[w.heap.size+1]?=some (.cells #[.int .i64 0,.int .i64 0,.int .i64 0,.int .i64 0,.slice none 0 0] 39 (0,0))):=(hb2.block _ (by have:=HZW.out;omega)).trans HGW.out;have HZ2:Hid (w.heap.size+2<=w2.heap.size):=(by have:=HZW.out;have:=hb2.size;show _<=_;omega);have HM2:=(hb2.block w.heap.size (by have:=HZW.out;omega)).trans HMW.out;have q0:=yb HM2 0;have q1:=yb HM2 1;have q2:=yb HM2 2;have q3:=yb HM2 3;dsimp at q0 q1 q2 q3;have hLL:=HL.out w2 (HW2.out.trans (hb2.mono (by have:=HZW.out;omega)));clear hb2 HM2) | (go_at_call 34;refine (hLL).mono ?_;rintro e w3 ⟨hb3,v,B,rfl,hB,how⟩;obtain ⟨ya,yc,rfl⟩:=Yy how;have HB3:Hid (Below w2.heap.size w2 w3):=hb3;have HBB:Hid (w2.heap.size<=B):=hB;have HOw:Hid (w3.ownsRow B 3 1 (.slice ya y.length yc) y.length (y.map (.int .i64))):=how;have HR3:Hid (w3.heap[w.heap.size+1]?=some (.cells #[.int .i64 0,.int .i64 0,.int .i64 0,.int .i64 0,.slice none 0 0] 39 (0,0))):=(hb3.block _ (by have:=HZ2.out;omega)).trans HR2.out;have d0:=yb HR3.out 0;have d1:=yb HR3.out 1;have d2:=yb HR3.out 2;have d3:=yb HR3.out 3;have d4:=yb HR3.out 4;have e0:=yl HR3.out 0;have e1:=yl HR3.out 1;have e2:=yl HR3.out 2;have e3:=yl HR3.out 3;have e4:=yl HR3.out 4;dsimp at d0 d1 d2 d3 d4;clear hb3 hB how;unfold vdC))
      have z2:=HZW.out;have z3:=HZ2.out;have z4:=HBB.out;have hg5:=zE HR3.out (.int .i64 k) (.int .i64 0) (.int .i64 wo) (.int .i64 0) (.slice ya y.length yc);have hb5:=zM ((HW2.out.trans (HB2.out.mono (by omega))).trans (HB3.out.mono (by omega))) (w.heap.size+1) (by omega) (.int .i64 k) (.int .i64 0) (.int .i64 wo) (.int .i64 0) (.slice ya y.length yc);have ho5:=yN HOw.out fun g hg=>zN w3 (w.heap.size+1) (.int .i64 k) (.int .i64 0) (.int .i64 wo) (.int .i64 0) (.slice ya y.length yc) g (by have:=(zO HOw.out hg).1;omega)
      refine bodyPost_ret (xS Tryz.results12 _ _ (w.heap.size+1) 39 (vdC k wo 0 (.slice ya y.length yc)) (0,0) _ rfl hg5 Tryz.underlying39 rfl infV) rfl ⟨hb5,.inr ⟨HS.out,?_⟩⟩;rw [HD.out];exact ⟨_,B,rfl,by omega,ho5⟩
    | false =>
      have hD:ansD m=fstD m:=by unfold ansD;rw [hh];rfl
      have hL:∀ W,Below w.heap.size w W->Calls Tryz.prog 35 #[.agg #[.slice va m.vars.length vp,.slice ca m.cons.length cp,.bool false,.slice ga m.goal.length gp]] W (VdO (fstD m) W):=fun W hb=>by
        have:=y1i m _ _ _ W (HMo.out W hb);unfold yp at this
        rwa [hh] at this
      obtain ⟨⟨k,wo,y⟩,hd⟩:∃ d,fstD m=d:=⟨_,rfl⟩;have HD:Hid (ansD m=(k,wo,y)):=hD.trans hd;rw [hd] at hL;have HL:Hid (∀ W,Below w.heap.size w W->Calls Tryz.prog 35 #[.agg #[.slice va m.vars.length vp,.slice ca m.cons.length cp,.bool false,.slice ga m.goal.length gp]] W (VdO (k,wo,y) W)):=hL;rw [hh] at hC p2 HMW hW1;clear hD hd hL HMo hh;go_enter Tryz.func12,Tryz.ntmps12
      go_wp2_with (first | (go_at_call 28;refine hC.mono ?_;rintro e w2 ⟨rfl,hb2⟩;have HB2:Hid (Below W2.heap.size W2 w2):=hb2;have HR2:Hid (w2.heap[w.heap.size+1]?=some (.cells #[.int .i64 0,.int .i64 0,.int .i64 0,.int .i64 0,.slice none 0 0] 39 (0,0))):=(hb2.block _ (by have:=HZW.out;omega)).trans HGW.out;have HZ2:Hid (w.heap.size+2<=w2.heap.size):=(by have:=HZW.out;have:=hb2.size;show _<=_;omega);have HM2:=(hb2.block w.heap.size (by have:=HZW.out;omega)).trans HMW.out;have q0:=yb HM2 0;have q1:=yb HM2 1;have q2:=yb HM2 2;have q3:=yb HM2 3;dsimp at q0 q1 q2 q3;have hLL:=HL.out w2 (HW2.out.trans (hb2.mono (by have:=HZW.out;omega)));clear hb2 HM2) | (go_at_call 35;refine (hLL).mono ?_;rintro e w3 ⟨hb3,v,B,rfl,hB,how⟩;obtain ⟨ya,yc,rfl⟩:=Yy how;have HB3:Hid (Below w2.heap.size w2 w3):=hb3;have HBB:Hid (w2.heap.size<=B):=hB;have HOw:Hid (w3.ownsRow B 3 1 (.slice ya y.length yc) y.length (y.map (.int .i64))):=how;have HR3:Hid (w3.heap[w.heap.size+1]?=some (.cells #[.int .i64 0,.int .i64 0,.int .i64 0,.int .i64 0,.slice none 0 0] 39 (0,0))):=(hb3.block _ (by have:=HZ2.out;omega)).trans HR2.out;have d0:=yb HR3.out 0;have d1:=yb HR3.out 1;have d2:=yb HR3.out 2;have d3:=yb HR3.out 3;have d4:=yb HR3.out 4;have e0:=yl HR3.out 0;have e1:=yl HR3.out 1;have e2:=yl HR3.out 2;have e3:=yl HR3.out 3;have e4:=yl HR3.out 4;dsimp at d0 d1 d2 d3 d4;clear hb3 hB how;unfold vdC))
      have z2:=HZW.out;have z3:=HZ2.out;have z4:=HBB.out;have hg5:=zE HR3.out (.int .i64 k) (.int .i64 0) (.int .i64 wo) (.int .i64 0) (.slice ya y.length yc);have hb5:=zM ((HW2.out.trans (HB2.out.mono (by omega))).trans (HB3.out.mono (by omega))) (w.heap.size+1) (by omega) (.int .i64 k) (.int .i64 0) (.int .i64 wo) (.int .i64 0) (.slice ya y.length yc);have ho5:=yN HOw.out fun g hg=>zN w3 (w.heap.size+1) (.int .i64 k) (.int .i64 0) (.int .i64 wo) (.int .i64 0) (.slice ya y.length yc) g (by have:=(zO HOw.out hg).1;omega)
      refine bodyPost_ret (xS Tryz.results12 _ _ (w.heap.size+1) 39 (vdC k wo 0 (.slice ya y.length yc)) (0,0) _ rfl hg5 Tryz.underlying39 rfl infV) rfl ⟨hb5,.inr ⟨HS.out,?_⟩⟩;rw [HD.out];exact ⟨_,B,rfl,by omega,ho5⟩
def AlO (m:Md.Mo) (w:World) (e:Ending) (W:World):Prop:=Below w.heap.size w W/\(((Md.product m 100000).2=false/\e=.returned (.tuple #[.agg #[.int .i64 0,.int .i64 0,.int .i64 0,.int .i64 0,.slice none 0 0],.bool false])) ∨
  ((Md.product m 100000).2=true/\e=.returned (.tuple #[.agg (vdC 6 0 ((yt m).length:Int) (.slice none 0 0)),.bool true])))
theorem Xp (m:Md.Mo) (vv vc vg:Value) (w:World) (h:MoAt w m vv vc vg):Calls Tryz.prog 13 #[yp m vv vc vg] w (AlO m w):=by
  obtain ⟨va,vp,rfl,hvm⟩:=h.v.form;obtain ⟨ca,cp,rfl,hcm⟩:=h.c.form;obtain ⟨ga,gp,rfl,hgm⟩:=h.g.form;obtain ⟨W1,hW1⟩:∃ W,w.alloc (.cells #[.slice va m.vars.length vp,.slice ca m.cons.length cp,.bool m.has,.slice ga m.goal.length gp] 26)=W:=⟨_,rfl⟩;have g1:W1.heap[w.heap.size]?=some (.cells #[.slice va m.vars.length vp,.slice ca m.cons.length cp,.bool m.has,.slice ga m.goal.length gp] 26 (0,0)):=hAe hW1;have b1:Below w.heap.size w W1:=bAe hW1;have z1:W1.heap.size=w.heap.size+1:=by rw [<-hW1];exact Array.size_push _
  obtain ⟨W2,hW2⟩:∃ W,W1.alloc (.cells #[.int .i64 0,.int .i64 0,.int .i64 0,.int .i64 0,.slice none 0 0] 39)=W:=⟨_,rfl⟩;have g2:W2.heap[w.heap.size+1]?=some (.cells #[.int .i64 0,.int .i64 0,.int .i64 0,.int .i64 0,.slice none 0 0] 39 (0,0)):=by rw [<-hW2,<-z1];exact heap_alloc_new W1 _
  have b2:Below w.heap.size w W2:=by rw [<-hW2];exact b1.alloc (by omega) _
  have z2:W2.heap.size=w.heap.size+2:=by
    have h:W2.heap.size=W1.heap.size+1:=by rw [<-hW2];exact Array.size_push _
    omega
  have m2:W2.heap[w.heap.size]?=some (.cells #[.slice va m.vars.length vp,.slice ca m.cons.length cp,.bool m.has,.slice ga m.goal.length gp] 26 (0,0)):=by rw [<-hW2];exact (Below.heap_alloc _ _ _ (by omega)).trans g1
  have p0:=yb m2 0;have p1:=yb m2 1;have p2:=yb m2 2;have p3:=yb m2 3;dsimp at p0 p1 p2 p3;have HW2:Hid (Below w.heap.size w W2):=b2;have HZW:Hid (W2.heap.size=w.heap.size+2):=z2;have HGW:Hid (W2.heap[w.heap.size+1]?=some (.cells #[.int .i64 0,.int .i64 0,.int .i64 0,.int .i64 0,.slice none 0 0] 39 (0,0))):=g2;have HMW:Hid (W2.heap[w.heap.size]?=some (.cells #[.slice va m.vars.length vp,.slice ca m.cons.length cp,.bool m.has,.slice ga m.goal.length gp] 26 (0,0))):=m2;have hC:=Zh m _ _ _ W2 (h.below b2);unfold yp at hC ⊢;clear h g1 b1 g2 b2 m2;obtain ⟨n,hn⟩:∃ n:Int,((yt m).length:Int)=n:=⟨_,rfl⟩;rw [hn] at hC;unfold AlO;rw [hn];clear hn
  cases hs:(Md.product m 100000).2 with
  | false =>
    rw [hs] at hC;go_enter Tryz.func13,Tryz.ntmps13;go_wp2_with (go_at_call 11;refine hC.mono ?_;rintro e w2 ⟨rfl,hb2⟩;have HB2:Hid (Below W2.heap.size W2 w2):=hb2;have HR2:Hid (w2.heap[w.heap.size+1]?=some (.cells #[.int .i64 0,.int .i64 0,.int .i64 0,.int .i64 0,.slice none 0 0] 39 (0,0))):=(hb2.block _ (by have:=HZW.out;omega)).trans HGW.out;have d0:=yb HR2.out 0;have d1:=yb HR2.out 1;have d2:=yb HR2.out 2;have d3:=yb HR2.out 3;have d4:=yb HR2.out 4;have e0:=yl HR2.out 0;have e1:=yl HR2.out 1;have e2:=yl HR2.out 2;have e3:=yl HR2.out 3;have e4:=yl HR2.out 4;dsimp at d0 d1 d2 d3 d4;clear hb2);have z2:=HZW.out;have hg5:=zE HR2.out (.int .i64 0) (.int .i64 0) (.int .i64 0) (.int .i64 0) (.slice none 0 0)
    have hb5:=zM (HW2.out.trans (HB2.out.mono (by omega))) (w.heap.size+1) (by omega) (.int .i64 0) (.int .i64 0) (.int .i64 0) (.int .i64 0) (.slice none 0 0);exact bodyPost_ret (xS Tryz.results13 _ _ (w.heap.size+1) 39 #[.int .i64 0,.int .i64 0,.int .i64 0,.int .i64 0,.slice none 0 0] (0,0) _ rfl hg5 Tryz.underlying39 rfl infV) rfl ⟨hb5,.inl ⟨trivial,rfl⟩⟩
  | true =>
    rw [hs] at hC;go_enter Tryz.func13,Tryz.ntmps13;go_wp2_with (go_at_call 11;refine hC.mono ?_;rintro e w2 ⟨rfl,hb2⟩;have HB2:Hid (Below W2.heap.size W2 w2):=hb2;have HR2:Hid (w2.heap[w.heap.size+1]?=some (.cells #[.int .i64 0,.int .i64 0,.int .i64 0,.int .i64 0,.slice none 0 0] 39 (0,0))):=(hb2.block _ (by have:=HZW.out;omega)).trans HGW.out;have d0:=yb HR2.out 0;have d1:=yb HR2.out 1;have d2:=yb HR2.out 2;have d3:=yb HR2.out 3;have d4:=yb HR2.out 4;have e0:=yl HR2.out 0;have e1:=yl HR2.out 1;have e2:=yl HR2.out 2;have e3:=yl HR2.out 3;have e4:=yl HR2.out 4;dsimp at d0 d1 d2 d3 d4;clear hb2);have z2:=HZW.out;have hg5:=zE HR2.out (.int .i64 6) (.int .i64 0) (.int .i64 0) (.int .i64 n) (.slice none 0 0)
    have hb5:=zM (HW2.out.trans (HB2.out.mono (by omega))) (w.heap.size+1) (by omega) (.int .i64 6) (.int .i64 0) (.int .i64 0) (.int .i64 n) (.slice none 0 0);exact bodyPost_ret (xS Tryz.results13 _ _ (w.heap.size+1) 39 #[.int .i64 6,.int .i64 0,.int .i64 0,.int .i64 n,.slice none 0 0] (0,0) _ rfl hg5 Tryz.underlying39 rfl infV) rfl ⟨hb5,.inr ⟨trivial,rfl⟩⟩
end Go.Proofs.YtjgghimjnbjlbaaGreatDoor

namespace Go.Proofs.YtjgghimjnbjlbaaGreatDoor
open Go Go.RowKit Go.Shelf Go.Lib
set_option maxRecDepth 10000
set_option maxHeartbeats 8000000
attribute [local go_sem] Oper.semAt_some
theorem y1G (v v':Value) (c:List Int) (w:World) (h:MInts w v c) (h':MInts w v' c):Calls Tryz.prog 18 #[v,v'] w fun e w'=>e=.returned (.bool true)/\Below w.heap.size w w':=by
  obtain ⟨a,cap,rfl,hl,hc⟩:=h;obtain ⟨a',cap',rfl,_,hc'⟩:=h';unfold maxLen at hl;have HC:Hid (∀ w',Below w.heap.size w w'->∀ j (hj:j<c.length),∃ g o,a=some ⟨g,o,none⟩/\w'.cell? ⟨g,o+j,none⟩=some (.int .i64 c[j])):=fun w' hb j hj=>by
    obtain ⟨g,o,e1,e2,e3⟩:=hc (by omega);exact ⟨g,o,e1,(hb.cell (p:=⟨g,o+j,none⟩) e2).trans (e3 j hj)⟩
  have HC':Hid (∀ w',Below w.heap.size w w'->∀ j (hj:j<c.length),∃ g o,a'=some ⟨g,o,none⟩/\w'.cell? ⟨g,o+j,none⟩=some (.int .i64 c[j])):=fun w' hb j hj=>by
    obtain ⟨g,o,e1,e2,e3⟩:=hc' (by omega);exact ⟨g,o,e1,(hb.cell (p:=⟨g,o+j,none⟩) e2).trans (e3 j hj)⟩
  clear hc hc';go_enter Tryz.func18,Tryz.ntmps18;go_wp2_with fail
  go_loopw [5] (fun iv wr=>∃ k:Nat,iv=.int .i64 (k:Int)/\k<=c.length/\Hid (Below w.heap.size w wr)) (fun iv _=>c.length-(RowKit.intOf iv).toNat)
  case atStart=>exact ⟨0,rfl,Nat.zero_le _,Below.refl _ _⟩
  case round=>
    obtain ⟨k,rfl,hk,HBr⟩:=hrel
    by_cases hkn:k<c.length
    · have hkI:(k:Int)<(c.length:Int):=by omega
      obtain ⟨g,o,rfl,x0⟩:=HC.out wr HBr.out k hkn;obtain ⟨g',o',rfl,y0⟩:=HC'.out wr HBr.out k hkn;obtain ⟨y,hy⟩:∃ y,c[k]=y:=⟨_,rfl⟩;rw [hy] at x0 y0;have hyy:(y==y)=true:=by simp
      clear hy;go_wp2_with fail
      go_region
      all_goals
        go_wp2_with fail
        go_roundw
        case rel=>exact ⟨k+1,by go_num,hkn,HBr.out.drew⟩
        case measure=>simp [RowKit.intOf];omega
    · have hke:k=c.length:=by omega
      subst hke;have hkI:¬ (c.length:Int)<(c.length:Int):=by omega
      go_wp2_with fail
      go_ret;exact ⟨rfl,HBr.out⟩
theorem Yv (k wo n:Int) (v v':Value) (c:List Int) (w:World) (h:MInts w v c) (h':MInts w v' c):Calls Tryz.prog 14 #[.agg (vdC k wo n v),.agg (vdC k wo n v')] w fun e w'=>e=.returned (.bool true)/\Below w.heap.size w w':=by
  have HI:Hid (∀ w',Below w.heap.size w w'->Calls Tryz.prog 18 #[v,v'] w' fun e w2=>e=.returned (.bool true)/\Below w'.heap.size w' w2):=fun w' hb=>y1G v v' c w' (h.below hb) (h'.below hb)
  obtain ⟨a,cap,rfl,_,_⟩:=h;obtain ⟨a',cap',rfl,_,_⟩:=h';obtain ⟨l,hl⟩:∃ l,c.length=l:=⟨_,rfl⟩;rw [hl] at HI ⊢;obtain ⟨W1,hW1⟩:∃ W,w.alloc (.cells (vdC k wo n (.slice a l cap)) 39)=W:=⟨_,rfl⟩;have g1:W1.heap[w.heap.size]?=some (.cells (vdC k wo n (.slice a l cap)) 39 (0,0)):=hAe hW1;have b1:Below w.heap.size w W1:=bAe hW1;have z1:W1.heap.size=w.heap.size+1:=by rw [<-hW1];exact Array.size_push _
  obtain ⟨W2,hW2⟩:∃ W,W1.alloc (.cells (vdC k wo n (.slice a' l cap')) 39)=W:=⟨_,rfl⟩;have g2:W2.heap[w.heap.size+1]?=some (.cells (vdC k wo n (.slice a' l cap')) 39 (0,0)):=by rw [<-hW2,<-z1];exact heap_alloc_new W1 _
  have b2:Below w.heap.size w W2:=by rw [<-hW2];exact b1.alloc (by omega) _
  have z2:W2.heap.size=w.heap.size+2:=by
    have h:W2.heap.size=W1.heap.size+1:=by rw [<-hW2];exact Array.size_push _
    omega
  have m2:W2.heap[w.heap.size]?=some (.cells (vdC k wo n (.slice a l cap)) 39 (0,0)):=by rw [<-hW2];exact (Below.heap_alloc _ _ _ (by omega)).trans g1
  unfold vdC at g1 g2 m2 hW1 hW2 ⊢;have p0:=yb m2 0;have p1:=yb m2 1;have p2:=yb m2 2;have p3:=yb m2 3;have p4:=yb m2 4;have q0:=yb g2 0;have q1:=yb g2 1;have q2:=yb g2 2;have q3:=yb g2 3;have q4:=yb g2 4;dsimp at p0 p1 p2 p3 p4 q0 q1 q2 q3 q4;have hI:=HI.out W2 b2;have HB2:Hid (Below w.heap.size w W2):=b2;have hk1:(k==k)=true:=by simp
  have hk2:(wo==wo)=true:=by simp
  have hk3:(n==n)=true:=by simp
  clear g1 g2 m2 b1 b2 hl;go_enter Tryz.func14,Tryz.ntmps14;go_wp2_with (go_at_call 18;refine hI.mono ?_;rintro e w3 ⟨rfl,hb3⟩;have HB3:Hid (Below W2.heap.size W2 w3):=hb3;clear hb3);go_ret;exact ⟨rfl,HB2.out.trans (HB3.out.mono (by omega))⟩
end Go.Proofs.YtjgghimjnbjlbaaGreatDoor

namespace Go.Proofs.YtjgghimjnbjlbaaGreatDoor
open Go Go.RowKit Go.Shelf Go.Lib
set_option maxRecDepth 10000
set_option maxHeartbeats 8000000
def kmA:Md.Mo:={ vars:=[⟨⟨#[120]⟩,0,2⟩,⟨⟨#[121]⟩,0,2⟩],cons:=[⟨3,0,[],0,0,0,0,[0,1],[],[]⟩],has:=false,goal:=[] }
def kmB:Md.Mo:={ kmA with has:=true,goal:=[(-1,0)] }
theorem XR:(Md.product kmA 100000).2=true:=by kernel_rfl
theorem XT:(Md.product kmB 100000).2=true:=by kernel_rfl
theorem y1t:(yt kmA).length=6:=by kernel_rfl
theorem y1v:(yt kmB).length=6:=by kernel_rfl
theorem y1u:ansD kmA=(3,0,[0,1]):=by kernel_rfl
theorem y1w:ansD kmB=(4,-2,[2,0]):=by kernel_rfl
def ktA:ByteArray:=⟨#[42,32,97,10,112,111,108,32,49,10,114,117,112,32,62,61,32,48,32,59,10,100,101,108,32,105,100,32,51,32,52,10]⟩
def ktB:ByteArray:=⟨#[42,32,97,10,110,111,116,104,105,110,103,10]⟩
theorem y1z:(lns ktA.data.toList []).all (fun x=>er x==0)=true:=by kernel_rfl
theorem y1B:(lns ktB.data.toList []).all (fun x=>er x==0)=false:=by kernel_rfl
theorem y1y:wtS (lns ktA.data.toList []) 32=#[.int .i64 4,.int .i64 32,.int .i64 2,.int .i64 2,.int .i64 2,.int .i64 10,.int .i64 0,.int .i64 0,.int .i64 0,.int .i64 1,.int .i64 1,.int .i64 0,.int .i64 1,.int .i64 1,.int .i64 0,.int .i64 0,.int .i64 0,.int .i64 0,.int .i64 0]:=by kernel_rfl
end Go.Proofs.YtjgghimjnbjlbaaGreatDoor

namespace Go.Proofs.YtjgghimjnbjlbaaGreatDoor
open Go Go.RowKit Go.Shelf Go.Lib
attribute [local go_sem] Oper.semAt_some
def Keeps (w:World) (L:List (Nat × Obj)) (W:World):Prop:=Below w.heap.size w W/\∀ p∈L,W.heap[p.1]?=some p.2
theorem Keeps.step {w W W':World} {L:List (Nat × Obj)} (h:Keeps w L W) (hb:Below W.heap.size W W'):Keeps w L W':=
  ⟨ym h.1 hb,fun p hp=>(hb.block _ (Array.getElem?_eq_some_iff.1 (h.2 p hp)).1).trans (h.2 p hp)⟩
theorem Keeps.alloc {w W:World} {L:List (Nat × Obj)} (h:Keeps w L W) (o:Obj):Keeps w ((W.heap.size,o) :: L) (W.alloc o):=by
  have hb:Below W.heap.size W (W.alloc o):=(Below.refl _ _).alloc (Nat.le_refl _) _;have h2:=h.step hb;refine ⟨h2.1,fun p hp=>?_⟩;rcases List.mem_cons.1 hp with rfl | hp
  · exact heap_alloc_new W o
  · exact h2.2 p hp
theorem Keeps.get {w W:World} {L:List (Nat × Obj)} (h:Keeps w L W) (i:Nat) {p:Nat × Obj} (hi:L[i]?=some p):W.heap[p.1]?=some p.2:=h.2 p (List.mem_of_getElem? hi)
theorem XM {W:World} {g:Nat} (h:W.heap[g]?=some (.cells #[.string ⟨#[120]⟩,.int .i64 0,.int .i64 2,.string ⟨#[121]⟩,.int .i64 0,.int .i64 2] 49 (0,0))):VarsAt W (.slice (some ⟨g,0,none⟩) 2 2) kmA.vars:=by
  refine ⟨_,2,rfl,by decide,?_,fun _=>⟨g,0,rfl,(hLt h),?_⟩⟩
  · intro x hx
    simp only [kmA,List.mem_cons,List.not_mem_nil,or_false] at hx
    rcases hx with rfl | rfl <;> decide
  · intro j hj
    have hj:j<2:=hj;rcases j with _ | _ | j
    · exact ⟨yb h 0,yb h 1,yb h 2⟩
    · exact ⟨yb h 3,yb h 4,yb h 5⟩
    · omega
theorem XN {W:World} {g x:Nat} (h:W.heap[g]?=some (.cells #[.int .i64 3,.int .i64 0,.slice none 0 0,.int .i64 0,.int .i64 0,.int .i64 0,.int .i64 0,.slice (some ⟨x,0,none⟩) 2 2,.slice none 0 0,.slice none 0 0] 51 (0,0))) (hx:W.heap[x]?=some (.cells #[.int .i64 0,.int .i64 1] 3 (0,0))):ConsAt W (.slice (some ⟨g,0,none⟩) 1 1) kmA.cons:=by
  refine ⟨_,1,rfl,by decide,fun _=>⟨g,0,rfl,(hLt h),?_⟩⟩;intro j hj;have hj:j<1:=hj;obtain rfl:j=0:=by omega
  refine ⟨.slice none 0 0,.slice (some ⟨x,0,none⟩) 2 2,.slice none 0 0,.slice none 0 0,⟨?_,?_,?_,?_,?_⟩,yb h 0,yb h 1,yb h 2,yb h 3,yb h 4,yb h 5,yb h 6,yb h 7,yb h 8,yb h 9⟩
  · exact ⟨none,0,rfl,Nat.zero_le _,fun h=>absurd h (Nat.lt_irrefl 0)⟩
  · refine ⟨_,2,rfl,(show (2:Nat)<=maxLen by decide),fun _=>⟨x,0,rfl,(hLt hx),?_⟩⟩
    intro j hj;have hj:j<2:=hj;rcases j with _ | _ | j
    · exact yb hx 0
    · exact yb hx 1
    · omega
  · rintro a n cp ⟨⟩
    decide
  · exact ⟨none,0,rfl,Nat.zero_le _,fun h=>absurd h (Nat.lt_irrefl 0)⟩
  · exact ⟨none,0,rfl,Nat.zero_le _,fun h=>absurd h (Nat.lt_irrefl 0)⟩
theorem y1r {W:World} {g:Nat} (h:W.heap[g]?=some (.cells #[.int .i64 (-1),.int .i64 0] 67 (0,0))):TermsAt W (.slice (some ⟨g,0,none⟩) 1 1) kmB.goal:=by
  refine ⟨_,1,rfl,by decide,fun _=>⟨g,0,rfl,(hLt h),?_⟩⟩;intro j hj;have hj:j<1:=hj;obtain rfl:j=0:=by omega
  exact ⟨yb h 0,yb h 1⟩
theorem XO {W:World} {g:Nat} (a b:Int) (h:W.heap[g]?=some (.cells #[.int .i64 a,.int .i64 b] 3 (0,0))):MInts W (.slice (some ⟨g,0,none⟩) 2 2) [a,b]:=by
  refine ⟨_,2,rfl,(show (2:Nat)<=maxLen by decide),fun _=>⟨g,0,rfl,(hLt h),?_⟩⟩;intro j hj;have hj:j<2:=hj;rcases j with _ | _ | j
  · exact yb h 0
  · exact yb h 1
  · omega
theorem y1s (W:World):TermsAt W (.slice none 0 0) []:=⟨none,0,rfl,Nat.zero_le _,fun h=>absurd h (Nat.lt_irrefl 0)⟩
theorem Yw (W:World):MInts W (.slice none 0 0) []:=⟨none,0,rfl,Nat.zero_le _,fun h=>absurd h (Nat.lt_irrefl 0)⟩
theorem XP (g:Nat):∀ a n cp,(Value.slice (some ⟨g,0,none⟩) 2 2)=.slice a n cp->n<=cp:=by rintro a n cp ⟨⟩;exact Nat.le_refl _
theorem XQ (W:World) (g c x:Nat) (h1:W.heap[g]?=some (.cells #[.string ⟨#[120]⟩,.int .i64 0,.int .i64 2,.string ⟨#[121]⟩,.int .i64 0,.int .i64 2] 49 (0,0))) (h2:W.heap[c]?=some (.cells #[.int .i64 3,.int .i64 0,.slice none 0 0,.int .i64 0,.int .i64 0,.int .i64 0,.int .i64 0,.slice (some ⟨x,0,none⟩) 2 2,.slice none 0 0,.slice none 0 0] 51 (0,0))) (h3:W.heap[x]?=some (.cells #[.int .i64 0,.int .i64 1] 3 (0,0))) :
    Calls Tryz.prog 11 #[.agg #[.slice (some ⟨g,0,none⟩) 2 2,.slice (some ⟨c,0,none⟩) 1 1,.bool false,.slice none 0 0]] W (fun e w'=>e=.returned (.tuple #[.int .i64 6,.bool true])/\Below W.heap.size W w') /\
    Calls Tryz.prog 12 #[.agg #[.slice (some ⟨g,0,none⟩) 2 2,.slice (some ⟨c,0,none⟩) 1 1,.bool false,.slice none 0 0]] W (fun e w'=>∃ a cp B,e=.returned (.tuple #[.agg #[.int .i64 3,.int .i64 0,.int .i64 0,.int .i64 0,.slice a 2 cp],.bool true])/\Below W.heap.size W w'/\w'.ownsRow B 3 1 (.slice a 2 cp) 2 [.int .i64 0,.int .i64 1]):=by
  have hM:MoAt W kmA (.slice (some ⟨g,0,none⟩) 2 2) (.slice (some ⟨c,0,none⟩) 1 1) (.slice none 0 0):=⟨XM h1,XP g,XN h2 h3,y1s W⟩;refine ⟨?_,?_⟩
  · have:=Zh kmA _ _ _ W hM
    rw [y1t,XR] at this;exact this
  · refine Calls.mono (Zi kmA _ _ _ W hM) ?_
    rintro e w' ⟨hb,⟨h,_⟩ | ⟨_,v,B,he,_,how⟩⟩
    · rw [XR] at h;cases h
    · rw [y1u] at he how
      obtain ⟨a,cp,rfl⟩:=Yy how;exact ⟨a,cp,B,he,hb,how⟩
theorem XS (W:World) (g c x t:Nat) (h1:W.heap[g]?=some (.cells #[.string ⟨#[120]⟩,.int .i64 0,.int .i64 2,.string ⟨#[121]⟩,.int .i64 0,.int .i64 2] 49 (0,0))) (h2:W.heap[c]?=some (.cells #[.int .i64 3,.int .i64 0,.slice none 0 0,.int .i64 0,.int .i64 0,.int .i64 0,.int .i64 0,.slice (some ⟨x,0,none⟩) 2 2,.slice none 0 0,.slice none 0 0] 51 (0,0))) (h3:W.heap[x]?=some (.cells #[.int .i64 0,.int .i64 1] 3 (0,0))) (h4:W.heap[t]?=some (.cells #[.int .i64 (-1),.int .i64 0] 67 (0,0))) :
    Calls Tryz.prog 13 #[.agg #[.slice (some ⟨g,0,none⟩) 2 2,.slice (some ⟨c,0,none⟩) 1 1,.bool true,.slice (some ⟨t,0,none⟩) 1 1]] W (fun e w'=>e=.returned (.tuple #[.agg #[.int .i64 6,.int .i64 0,.int .i64 0,.int .i64 6,.slice none 0 0],.bool true])/\Below W.heap.size W w') /\
    Calls Tryz.prog 12 #[.agg #[.slice (some ⟨g,0,none⟩) 2 2,.slice (some ⟨c,0,none⟩) 1 1,.bool true,.slice (some ⟨t,0,none⟩) 1 1]] W (fun e w'=>∃ a cp B,e=.returned (.tuple #[.agg #[.int .i64 4,.int .i64 0,.int .i64 (-2),.int .i64 0,.slice a 2 cp],.bool true])/\Below W.heap.size W w'/\w'.ownsRow B 3 1 (.slice a 2 cp) 2 [.int .i64 2,.int .i64 0]):=by
  have hM:MoAt W kmB (.slice (some ⟨g,0,none⟩) 2 2) (.slice (some ⟨c,0,none⟩) 1 1) (.slice (some ⟨t,0,none⟩) 1 1):=⟨XM h1,XP g,XN h2 h3,y1r h4⟩;refine ⟨?_,?_⟩
  · refine Calls.mono (Xp kmB _ _ _ W hM) ?_
    rintro e w' ⟨hb,⟨h,_⟩ | ⟨_,he⟩⟩
    · rw [XT] at h;cases h
    · rw [y1v] at he
      exact ⟨he,hb⟩
  · refine Calls.mono (Zi kmB _ _ _ W hM) ?_
    rintro e w' ⟨hb,⟨h,_⟩ | ⟨_,v,B,he,_,how⟩⟩
    · rw [XT] at h;cases h
    · rw [y1w] at he how
      obtain ⟨a,cp,rfl⟩:=Yy how;exact ⟨a,cp,B,he,hb,how⟩
theorem y1x (W:World) (hg:Gl W):Calls Tryz.prog 21 #[.string ktA] W fun e w'=>e=.returned (.tuple #[.agg #[.int .i64 4,.int .i64 32,.int .i64 2,.int .i64 2,.int .i64 2,.int .i64 10,.int .i64 0,.int .i64 0,.int .i64 0,.int .i64 1,.int .i64 1,.int .i64 0,.int .i64 1,.int .i64 1,.int .i64 0,.int .i64 0,.int .i64 0,.int .i64 0,.int .i64 0],.nilIface])/\Below W.heap.size W w':=by
  refine Calls.mono (XU ktA W (by decide) hg) ?_;rintro e w' ⟨hb,⟨_,he⟩ | ⟨pre,x,post,f,hL,_,hx,_⟩⟩
  · refine ⟨?_,hb⟩
    have e32:(ktA.size:Int)=32:=by decide
    rw [e32,y1y] at he;exact he
  · have:=y1z
    rw [hL] at this;simp [hx] at this
theorem y1A (W:World) (hg:Gl W):Calls Tryz.prog 21 #[.string ktB] W fun e w'=>(∃ f,e=.returned (.tuple #[.agg zW,.iface 95 (.pointer (some ⟨f,0,none⟩))]))/\Below W.heap.size W w':=by
  refine Calls.mono (XU ktB W (by decide) hg) ?_;rintro e w' ⟨hb,⟨h,_⟩ | ⟨pre,x,post,f,hL,_,hx,he,_⟩⟩
  · have h2:=y1B
    have:(lns ktB.data.toList []).all (fun x=>er x==0)=true:=List.all_eq_true.2 fun x hx=>by simp [h x hx]
    rw [this] at h2
    cases h2
  · exact ⟨⟨f,he⟩,hb⟩
end Go.Proofs.YtjgghimjnbjlbaaGreatDoor

namespace Go.Proofs.YtjgghimjnbjlbaaGreatDoor
open Go Go.RowKit Go.Shelf Go.Lib
set_option maxRecDepth 10000
set_option maxHeartbeats 8000000
attribute [local go_sem] Oper.semAt_some
theorem yO {W W':World} {B:Nat} {v:Value} {n:Nat} {xs:List Value} (h:W.ownsRow B 3 1 v n xs) (hb:Below W.heap.size W W'):W'.ownsRow B 3 1 v n xs:=yN h fun g hg=>hb.block g (zO h hg).2
theorem y1C {W W':World} {B p:Nat} {v:Value} {n:Nat} {xs:List Value} {c:Array Value} (h:W.ownsRow B 3 1 v n xs) (hp:W.heap[p]?=some (.cells c 26 (0,0))) (hk:∀ k,k≠p->W'.heap[k]?=W.heap[k]?):W'.ownsRow B 3 1 v n xs:=by
  refine yN h fun g hg=>hk g ?_
  rintro rfl;rcases h.2 with ⟨rfl,_⟩ | ⟨g',cap,cur,rfl,_,hgc,_⟩
  · cases hg
  · have:g'=g:=by simpa [Value.ownBlock] using hg
    subst this;rw [hp] at hgc
    cases hgc
def wtK:Array Value:=#[.int .i64 4,.int .i64 32,.int .i64 2,.int .i64 2,.int .i64 2,.int .i64 10,.int .i64 0,.int .i64 0,.int .i64 0,.int .i64 1,.int .i64 1,.int .i64 0,.int .i64 1,.int .i64 1,.int .i64 0,.int .i64 0,.int .i64 0,.int .i64 0,.int .i64 0]
theorem y1D (W:World) (hg:Gl W):Calls Tryz.prog 21 #[.string ktA] W fun e w'=>e=.returned (.tuple #[.agg wtK,.nilIface])/\Below W.heap.size W w':=y1x W hg
theorem XV {w W:World} {L:List (Nat × Obj)} (h:Keeps w L W) (cs:Array Value):Below W.heap.size W ((W.alloc (.cells zW 55)).setRow W.heap.size cs)/\Keeps w ((W.heap.size,.cells cs 55 (0,0)) :: L) ((W.alloc (.cells zW 55)).setRow W.heap.size cs):=by
  have hz:(W.alloc (.cells zW 55)).heap[W.heap.size]?=some (.cells zW 55 (0,0)):=heap_alloc_new W _;have hb:Below W.heap.size W ((W.alloc (.cells zW 55)).setRow W.heap.size cs):=((Below.refl _ _).alloc (Nat.le_refl _) _).trans ⟨rfl,rfl,rfl,by simp [World.setRow],fun k hk=>setRow_other _ _ k _ (by omega)⟩;have h2:=h.step hb;refine ⟨hb,h2.1,fun p hp=>?_⟩;rcases List.mem_cons.1 hp with rfl | hp
  · exact setRow_heap _ W.heap.size _ cs _ _ hz
  · exact h2.2 p hp
theorem known_any (w:World) (hg:Gl w):Calls Tryz.prog 8 #[] w fun e w'=>e=.returned (.bool true)/\Below w.heap.size w w':=by
  have HG:Hid (∀ W,Below w.heap.size w W->Gl W):=fun W hb=>hg.next hb
  clear hg;go_enter Tryz.func8,Tryz.ntmps8;go_wp2_with fail
  have K0:Keeps w [] w:=⟨Below.refl _ _,fun p hp=>by cases hp⟩;obtain ⟨V1,hV1⟩:∃ V,w.alloc (.cells #[.string ⟨#[120]⟩,.int .i64 0,.int .i64 2,.string ⟨#[121]⟩,.int .i64 0,.int .i64 2] 49)=V:=⟨_,rfl⟩;have zV1:V1.heap.size=w.heap.size+1:=by
    have h:V1.heap.size=w.heap.size+1:=by rw [<-hV1];exact Array.size_push _
    omega
  obtain ⟨V2,hV2⟩:∃ V,V1.alloc (.cells #[.int .i64 0,.int .i64 1] 3)=V:=⟨_,rfl⟩;have zV2:V2.heap.size=w.heap.size+1+1:=by
    have h:V2.heap.size=V1.heap.size+1:=by rw [<-hV2];exact Array.size_push _
    omega
  obtain ⟨V3,hV3⟩:∃ V,V2.alloc (.cells #[.int .i64 3,.int .i64 0,.slice none 0 0,.int .i64 0,.int .i64 0,.int .i64 0,.int .i64 0,.slice (some ⟨w.heap.size+1,0,none⟩) 2 2,.slice none 0 0,.slice none 0 0] 51)=V:=⟨_,rfl⟩;have zV3:V3.heap.size=w.heap.size+1+1+1:=by
    have h:V3.heap.size=V2.heap.size+1:=by rw [<-hV3];exact Array.size_push _
    omega
  obtain ⟨V4,hV4⟩:∃ V,V3.alloc (.cells #[.slice (some ⟨w.heap.size,0,none⟩) 2 2,.slice (some ⟨w.heap.size+1+1,0,none⟩) 1 1,.bool false,.slice none 0 0] 26)=V:=⟨_,rfl⟩;have zV4:V4.heap.size=w.heap.size+1+1+1+1:=by
    have h:V4.heap.size=V3.heap.size+1:=by rw [<-hV4];exact Array.size_push _
    omega
  have K4:Hid (Keeps w [(w.heap.size+1+1+1,Obj.cells #[.slice (some ⟨w.heap.size,0,none⟩) 2 2,.slice (some ⟨w.heap.size+1+1,0,none⟩) 1 1,.bool false,.slice none 0 0] 26 (0,0)),(w.heap.size+1+1,Obj.cells #[.int .i64 3,.int .i64 0,.slice none 0 0,.int .i64 0,.int .i64 0,.int .i64 0,.int .i64 0,.slice (some ⟨w.heap.size+1,0,none⟩) 2 2,.slice none 0 0,.slice none 0 0] 51 (0,0)),(w.heap.size+1,Obj.cells #[.int .i64 0,.int .i64 1] 3 (0,0)),(w.heap.size,Obj.cells #[.string ⟨#[120]⟩,.int .i64 0,.int .i64 2,.string ⟨#[121]⟩,.int .i64 0,.int .i64 2] 49 (0,0))] V4):=by
    have k:=(((K0.alloc (.cells #[.string ⟨#[120]⟩,.int .i64 0,.int .i64 2,.string ⟨#[121]⟩,.int .i64 0,.int .i64 2] 49)).alloc (.cells #[.int .i64 0,.int .i64 1] 3)).alloc (.cells #[.int .i64 3,.int .i64 0,.slice none 0 0,.int .i64 0,.int .i64 0,.int .i64 0,.int .i64 0,.slice (some ⟨w.heap.size+1,0,none⟩) 2 2,.slice none 0 0,.slice none 0 0] 51)).alloc (.cells #[.slice (some ⟨w.heap.size,0,none⟩) 2 2,.slice (some ⟨w.heap.size+1+1,0,none⟩) 1 1,.bool false,.slice none 0 0] 26);rw [hV1,hV2,hV3,hV4,zV1,zV2,zV3] at k;exact k
  rw [hV1,hV2,hV3,hV4];clear K0 zV1 zV2 zV3 zV4;have C1:=(XQ V4 _ _ _ (K4.out.get 3 rfl) (K4.out.get 1 rfl) (K4.out.get 2 rfl)).1;refine cA C1 ?_;rintro e u1 ⟨rfl,hb1⟩;have K5:Hid (Keeps w [(w.heap.size+1+1+1,Obj.cells #[.slice (some ⟨w.heap.size,0,none⟩) 2 2,.slice (some ⟨w.heap.size+1+1,0,none⟩) 1 1,.bool false,.slice none 0 0] 26 (0,0)),(w.heap.size+1+1,Obj.cells #[.int .i64 3,.int .i64 0,.slice none 0 0,.int .i64 0,.int .i64 0,.int .i64 0,.int .i64 0,.slice (some ⟨w.heap.size+1,0,none⟩) 2 2,.slice none 0 0,.slice none 0 0] 51 (0,0)),(w.heap.size+1,Obj.cells #[.int .i64 0,.int .i64 1] 3 (0,0)),(w.heap.size,Obj.cells #[.string ⟨#[120]⟩,.int .i64 0,.int .i64 2,.string ⟨#[121]⟩,.int .i64 0,.int .i64 2] 49 (0,0))] u1):=K4.out.step hb1;clear C1 hb1 K4 hV1 hV2 hV3 hV4
  have C2:=(XQ u1 _ _ _ (K5.out.get 3 rfl) (K5.out.get 1 rfl) (K5.out.get 2 rfl)).2;have b0:=yb (K5.out.get 0 rfl) 0;have b1:=yb (K5.out.get 0 rfl) 1;have b2:=yb (K5.out.get 0 rfl) 2;have b3:=yb (K5.out.get 0 rfl) 3;dsimp at b0 b1 b2 b3;go_wp2_with fail
  refine cA C2 ?_;rintro e u2 ⟨a1,c1,B1,rfl,hb2,ho⟩;have HO1:Hid (u2.ownsRow B1 3 1 (.slice a1 2 c1) 2 [.int .i64 0,.int .i64 1]):=ho;have K6:Hid (Keeps w [(w.heap.size+1+1+1,Obj.cells #[.slice (some ⟨w.heap.size,0,none⟩) 2 2,.slice (some ⟨w.heap.size+1+1,0,none⟩) 1 1,.bool false,.slice none 0 0] 26 (0,0)),(w.heap.size+1+1,Obj.cells #[.int .i64 3,.int .i64 0,.slice none 0 0,.int .i64 0,.int .i64 0,.int .i64 0,.int .i64 0,.slice (some ⟨w.heap.size+1,0,none⟩) 2 2,.slice none 0 0,.slice none 0 0] 51 (0,0)),(w.heap.size+1,Obj.cells #[.int .i64 0,.int .i64 1] 3 (0,0)),(w.heap.size,Obj.cells #[.string ⟨#[120]⟩,.int .i64 0,.int .i64 2,.string ⟨#[121]⟩,.int .i64 0,.int .i64 2] 49 (0,0))] u2):=K5.out.step hb2;clear C2 hb2 ho K5;clear b0 b1 b2 b3
  obtain ⟨V5,hV5⟩:∃ V,u2.alloc (.cells #[.int .i64 3,.int .i64 0,.int .i64 0,.int .i64 0,.slice a1 2 c1] 39)=V:=⟨_,rfl⟩;have zV5:V5.heap.size=u2.heap.size+1:=by
    have h:V5.heap.size=u2.heap.size+1:=by rw [<-hV5];exact Array.size_push _
    omega
  obtain ⟨V6,hV6⟩:∃ V,V5.alloc (.cells #[.int .i64 (-1),.int .i64 0] 67)=V:=⟨_,rfl⟩;have zV6:V6.heap.size=u2.heap.size+2:=by
    have h:V6.heap.size=V5.heap.size+1:=by rw [<-hV6];exact Array.size_push _
    omega
  have K8:Hid (Keeps w [(u2.heap.size+1,Obj.cells #[.int .i64 (-1),.int .i64 0] 67 (0,0)),(u2.heap.size,Obj.cells #[.int .i64 3,.int .i64 0,.int .i64 0,.int .i64 0,.slice a1 2 c1] 39 (0,0)),(w.heap.size+1+1+1,Obj.cells #[.slice (some ⟨w.heap.size,0,none⟩) 2 2,.slice (some ⟨w.heap.size+1+1,0,none⟩) 1 1,.bool false,.slice none 0 0] 26 (0,0)),(w.heap.size+1+1,Obj.cells #[.int .i64 3,.int .i64 0,.slice none 0 0,.int .i64 0,.int .i64 0,.int .i64 0,.int .i64 0,.slice (some ⟨w.heap.size+1,0,none⟩) 2 2,.slice none 0 0,.slice none 0 0] 51 (0,0)),(w.heap.size+1,Obj.cells #[.int .i64 0,.int .i64 1] 3 (0,0)),(w.heap.size,Obj.cells #[.string ⟨#[120]⟩,.int .i64 0,.int .i64 2,.string ⟨#[121]⟩,.int .i64 0,.int .i64 2] 49 (0,0))] V6):=by
    have k:=(K6.out.alloc (.cells #[.int .i64 3,.int .i64 0,.int .i64 0,.int .i64 0,.slice a1 2 c1] 39)).alloc (.cells #[.int .i64 (-1),.int .i64 0] 67);rw [hV5,hV6,zV5] at k;exact k
  have HO2:Hid (V6.ownsRow B1 3 1 (.slice a1 2 c1) 2 [.int .i64 0,.int .i64 1]):=by
    show World.ownsRow _ _ _ _ _ _ _;rw [<-hV6,<-hV5];exact yO (yO HO1.out ((Below.refl _ _).alloc (Nat.le_refl _) _)) ((Below.refl _ _).alloc (Nat.le_refl _) _)
  have b0:=yb (K8.out.get 2 rfl) 0;have b1:=yb (K8.out.get 2 rfl) 1;have b2:=yb (K8.out.get 2 rfl) 2;have b3:=yb (K8.out.get 2 rfl) 3;dsimp at b0 b1 b2 b3;have f2:=yl (K8.out.get 2 rfl) 2;have f3:=yl (K8.out.get 2 rfl) 3;obtain ⟨V7,hV7⟩:∃ V,(V6.setCell ⟨w.heap.size+1+1+1,2,none⟩ (.bool true)).setCell ⟨w.heap.size+1+1+1,3,none⟩ (.slice (some ⟨u2.heap.size+1,0,none⟩) 1 1)=V:=⟨_,rfl⟩;have hk7:∀ k,k≠w.heap.size+1+1+1->V7.heap[k]?=V6.heap[k]?:=fun k hk=>by
    rw [<-hV7,heap_setCell_other _ _ _ _ (by exact hk),heap_setCell_other _ _ _ _ (by exact hk)]
  have K9:Hid (Keeps w [(w.heap.size+1+1+1,Obj.cells #[.slice (some ⟨w.heap.size,0,none⟩) 2 2,.slice (some ⟨w.heap.size+1+1,0,none⟩) 1 1,.bool true,.slice (some ⟨u2.heap.size+1,0,none⟩) 1 1] 26 (0,0)),(u2.heap.size+1,Obj.cells #[.int .i64 (-1),.int .i64 0] 67 (0,0)),(u2.heap.size,Obj.cells #[.int .i64 3,.int .i64 0,.int .i64 0,.int .i64 0,.slice a1 2 c1] 39 (0,0)),(w.heap.size+1+1,Obj.cells #[.int .i64 3,.int .i64 0,.slice none 0 0,.int .i64 0,.int .i64 0,.int .i64 0,.int .i64 0,.slice (some ⟨w.heap.size+1,0,none⟩) 2 2,.slice none 0 0,.slice none 0 0] 51 (0,0)),(w.heap.size+1,Obj.cells #[.int .i64 0,.int .i64 1] 3 (0,0)),(w.heap.size,Obj.cells #[.string ⟨#[120]⟩,.int .i64 0,.int .i64 2,.string ⟨#[121]⟩,.int .i64 0,.int .i64 2] 49 (0,0))] V7):=by
    have hbx:=K8.out.get 2 rfl;have hsz2:w.heap.size+4<=u2.heap.size:=by
      have:=(Array.getElem?_eq_some_iff.1 (K6.out.get 0 rfl)).1;dsimp at this;omega
    refine ⟨?_,?_⟩
    · rw [<-hV7]
      exact (K8.out.1.setCell (show w.heap.size<=w.heap.size+1+1+1 by omega) _).setCell (show w.heap.size<=w.heap.size+1+1+1 by omega) _
    · intro p hp
      simp only [List.mem_cons,List.not_mem_nil,or_false] at hp;rcases hp with rfl | rfl | rfl | rfl | rfl | rfl
      · have:=yB (yB hbx 2 (.bool true)) 3 (.slice (some ⟨u2.heap.size+1,0,none⟩) 1 1)
        show V7.heap[w.heap.size+1+1+1]?=_;rw [<-hV7];simpa using this
      · exact (hk7 _ (show u2.heap.size+1≠w.heap.size+1+1+1 by omega)).trans (K8.out.get 0 rfl)
      · exact (hk7 _ (show u2.heap.size≠w.heap.size+1+1+1 by omega)).trans (K8.out.get 1 rfl)
      · exact (hk7 _ (show w.heap.size+1+1≠w.heap.size+1+1+1 by omega)).trans (K8.out.get 3 rfl)
      · exact (hk7 _ (show w.heap.size+1≠w.heap.size+1+1+1 by omega)).trans (K8.out.get 4 rfl)
      · exact (hk7 _ (show w.heap.size≠w.heap.size+1+1+1 by omega)).trans (K8.out.get 5 rfl)
  have HO3:Hid (V7.ownsRow B1 3 1 (.slice a1 2 c1) 2 [.int .i64 0,.int .i64 1]):=y1C HO2.out (K8.out.get 2 rfl) hk7;have C3:=(XS V7 _ _ _ _ (K9.out.get 5 rfl) (K9.out.get 3 rfl) (K9.out.get 4 rfl) (K9.out.get 1 rfl)).2;have g0:=yb (K9.out.get 0 rfl) 0;have g1:=yb (K9.out.get 0 rfl) 1;have g2:=yb (K9.out.get 0 rfl) 2;have g3:=yb (K9.out.get 0 rfl) 3;dsimp at g0 g1 g2 g3;clear hk7 K6 HO1 HO2;go_wp2_with fail
  refine cA C3 ?_;rintro e u3 ⟨a2,c2,B2,rfl,hb3,ho⟩;have HO4:Hid (u3.ownsRow B1 3 1 (.slice a1 2 c1) 2 [.int .i64 0,.int .i64 1]):=yO HO3.out hb3;have HP1:Hid (u3.ownsRow B2 3 1 (.slice a2 2 c2) 2 [.int .i64 2,.int .i64 0]):=ho
  have K10:Hid (Keeps w [(w.heap.size+1+1+1,Obj.cells #[.slice (some ⟨w.heap.size,0,none⟩) 2 2,.slice (some ⟨w.heap.size+1+1,0,none⟩) 1 1,.bool true,.slice (some ⟨u2.heap.size+1,0,none⟩) 1 1] 26 (0,0)),(u2.heap.size+1,Obj.cells #[.int .i64 (-1),.int .i64 0] 67 (0,0)),(u2.heap.size,Obj.cells #[.int .i64 3,.int .i64 0,.int .i64 0,.int .i64 0,.slice a1 2 c1] 39 (0,0)),(w.heap.size+1+1,Obj.cells #[.int .i64 3,.int .i64 0,.slice none 0 0,.int .i64 0,.int .i64 0,.int .i64 0,.int .i64 0,.slice (some ⟨w.heap.size+1,0,none⟩) 2 2,.slice none 0 0,.slice none 0 0] 51 (0,0)),(w.heap.size+1,Obj.cells #[.int .i64 0,.int .i64 1] 3 (0,0)),(w.heap.size,Obj.cells #[.string ⟨#[120]⟩,.int .i64 0,.int .i64 2,.string ⟨#[121]⟩,.int .i64 0,.int .i64 2] 49 (0,0))] u3):=K9.out.step hb3;clear C3 hb3 ho K8 K9 hV5 hV6 hV7 HO3 f2 f3
  clear b0 b1 b2 b3;clear g0 g1 g2 g3;obtain ⟨V8,hV8⟩:∃ V,u3.alloc (.cells #[.int .i64 4,.int .i64 0,.int .i64 (-2),.int .i64 0,.slice a2 2 c2] 39)=V:=⟨_,rfl⟩;have zV8:V8.heap.size=u3.heap.size+1:=by
    have h:V8.heap.size=u3.heap.size+1:=by rw [<-hV8];exact Array.size_push _
    omega
  have K11:Hid (Keeps w [(u3.heap.size,Obj.cells #[.int .i64 4,.int .i64 0,.int .i64 (-2),.int .i64 0,.slice a2 2 c2] 39 (0,0)),(w.heap.size+1+1+1,Obj.cells #[.slice (some ⟨w.heap.size,0,none⟩) 2 2,.slice (some ⟨w.heap.size+1+1,0,none⟩) 1 1,.bool true,.slice (some ⟨u2.heap.size+1,0,none⟩) 1 1] 26 (0,0)),(u2.heap.size+1,Obj.cells #[.int .i64 (-1),.int .i64 0] 67 (0,0)),(u2.heap.size,Obj.cells #[.int .i64 3,.int .i64 0,.int .i64 0,.int .i64 0,.slice a1 2 c1] 39 (0,0)),(w.heap.size+1+1,Obj.cells #[.int .i64 3,.int .i64 0,.slice none 0 0,.int .i64 0,.int .i64 0,.int .i64 0,.int .i64 0,.slice (some ⟨w.heap.size+1,0,none⟩) 2 2,.slice none 0 0,.slice none 0 0] 51 (0,0)),(w.heap.size+1,Obj.cells #[.int .i64 0,.int .i64 1] 3 (0,0)),(w.heap.size,Obj.cells #[.string ⟨#[120]⟩,.int .i64 0,.int .i64 2,.string ⟨#[121]⟩,.int .i64 0,.int .i64 2] 49 (0,0))] V8):=by
    have k:=K10.out.alloc (.cells #[.int .i64 4,.int .i64 0,.int .i64 (-2),.int .i64 0,.slice a2 2 c2] 39);rw [hV8] at k;exact k
  have HO5:Hid (V8.ownsRow B1 3 1 (.slice a1 2 c1) 2 [.int .i64 0,.int .i64 1]):=by
    show World.ownsRow _ _ _ _ _ _ _;rw [<-hV8];exact yO HO4.out ((Below.refl _ _).alloc (Nat.le_refl _) _)
  have HP2:Hid (V8.ownsRow B2 3 1 (.slice a2 2 c2) 2 [.int .i64 2,.int .i64 0]):=by
    show World.ownsRow _ _ _ _ _ _ _;rw [<-hV8];exact yO HP1.out ((Below.refl _ _).alloc (Nat.le_refl _) _)
  have C4:=(XS V8 _ _ _ _ (K11.out.get 6 rfl) (K11.out.get 4 rfl) (K11.out.get 5 rfl) (K11.out.get 2 rfl)).1;have b0:=yb (K11.out.get 1 rfl) 0;have b1:=yb (K11.out.get 1 rfl) 1;have b2:=yb (K11.out.get 1 rfl) 2;have b3:=yb (K11.out.get 1 rfl) 3;dsimp at b0 b1 b2 b3;go_wp2_with fail
  refine cA C4 ?_;rintro e u4 ⟨rfl,hb4⟩;have HO6:Hid (u4.ownsRow B1 3 1 (.slice a1 2 c1) 2 [.int .i64 0,.int .i64 1]):=yO HO5.out hb4;have HP3:Hid (u4.ownsRow B2 3 1 (.slice a2 2 c2) 2 [.int .i64 2,.int .i64 0]):=yO HP2.out hb4
  have K12:Hid (Keeps w [(u3.heap.size,Obj.cells #[.int .i64 4,.int .i64 0,.int .i64 (-2),.int .i64 0,.slice a2 2 c2] 39 (0,0)),(w.heap.size+1+1+1,Obj.cells #[.slice (some ⟨w.heap.size,0,none⟩) 2 2,.slice (some ⟨w.heap.size+1+1,0,none⟩) 1 1,.bool true,.slice (some ⟨u2.heap.size+1,0,none⟩) 1 1] 26 (0,0)),(u2.heap.size+1,Obj.cells #[.int .i64 (-1),.int .i64 0] 67 (0,0)),(u2.heap.size,Obj.cells #[.int .i64 3,.int .i64 0,.int .i64 0,.int .i64 0,.slice a1 2 c1] 39 (0,0)),(w.heap.size+1+1,Obj.cells #[.int .i64 3,.int .i64 0,.slice none 0 0,.int .i64 0,.int .i64 0,.int .i64 0,.int .i64 0,.slice (some ⟨w.heap.size+1,0,none⟩) 2 2,.slice none 0 0,.slice none 0 0] 51 (0,0)),(w.heap.size+1,Obj.cells #[.int .i64 0,.int .i64 1] 3 (0,0)),(w.heap.size,Obj.cells #[.string ⟨#[120]⟩,.int .i64 0,.int .i64 2,.string ⟨#[121]⟩,.int .i64 0,.int .i64 2] 49 (0,0))] u4):=K11.out.step hb4
  clear C4 hb4 K10 K11 hV8 HO4 HO5 HP1 HP2;clear b0 b1 b2 b3;go_wp2_with fail
  obtain ⟨V9,hV9⟩:∃ V,u4.alloc (.cells #[.int .i64 6,.int .i64 0,.int .i64 0,.int .i64 6,.slice none 0 0] 39)=V:=⟨_,rfl⟩;have zV9:V9.heap.size=u4.heap.size+1:=by
    have h:V9.heap.size=u4.heap.size+1:=by rw [<-hV9];exact Array.size_push _
    omega
  rw [hV9]
  have K13:Hid (Keeps w [(u4.heap.size,Obj.cells #[.int .i64 6,.int .i64 0,.int .i64 0,.int .i64 6,.slice none 0 0] 39 (0,0)),(u3.heap.size,Obj.cells #[.int .i64 4,.int .i64 0,.int .i64 (-2),.int .i64 0,.slice a2 2 c2] 39 (0,0)),(w.heap.size+1+1+1,Obj.cells #[.slice (some ⟨w.heap.size,0,none⟩) 2 2,.slice (some ⟨w.heap.size+1+1,0,none⟩) 1 1,.bool true,.slice (some ⟨u2.heap.size+1,0,none⟩) 1 1] 26 (0,0)),(u2.heap.size+1,Obj.cells #[.int .i64 (-1),.int .i64 0] 67 (0,0)),(u2.heap.size,Obj.cells #[.int .i64 3,.int .i64 0,.int .i64 0,.int .i64 0,.slice a1 2 c1] 39 (0,0)),(w.heap.size+1+1,Obj.cells #[.int .i64 3,.int .i64 0,.slice none 0 0,.int .i64 0,.int .i64 0,.int .i64 0,.int .i64 0,.slice (some ⟨w.heap.size+1,0,none⟩) 2 2,.slice none 0 0,.slice none 0 0] 51 (0,0)),(w.heap.size+1,Obj.cells #[.int .i64 0,.int .i64 1] 3 (0,0)),(w.heap.size,Obj.cells #[.string ⟨#[120]⟩,.int .i64 0,.int .i64 2,.string ⟨#[121]⟩,.int .i64 0,.int .i64 2] 49 (0,0))] V9):=by
    have k:=K12.out.alloc (.cells #[.int .i64 6,.int .i64 0,.int .i64 0,.int .i64 6,.slice none 0 0] 39);rw [hV9] at k;exact k
  have hb9:Below u4.heap.size u4 V9:=bAe hV9;have HO7:Hid (V9.ownsRow B1 3 1 (.slice a1 2 c1) 2 [.int .i64 0,.int .i64 1]):=yO HO6.out hb9;have HP4:Hid (V9.ownsRow B2 3 1 (.slice a2 2 c2) 2 [.int .i64 2,.int .i64 0]):=yO HP3.out hb9;have C5:=Yv 6 0 6 _ _ [] V9 (Yw V9) (Yw V9);unfold vdC at C5;clear hb9;refine cA C5 ?_;rintro e u5 ⟨rfl,hb5⟩;have HO8:Hid (u5.ownsRow B1 3 1 (.slice a1 2 c1) 2 [.int .i64 0,.int .i64 1]):=yO HO7.out hb5;have HP5:Hid (u5.ownsRow B2 3 1 (.slice a2 2 c2) 2 [.int .i64 2,.int .i64 0]):=yO HP4.out hb5
  have K14:Hid (Keeps w [(u4.heap.size,Obj.cells #[.int .i64 6,.int .i64 0,.int .i64 0,.int .i64 6,.slice none 0 0] 39 (0,0)),(u3.heap.size,Obj.cells #[.int .i64 4,.int .i64 0,.int .i64 (-2),.int .i64 0,.slice a2 2 c2] 39 (0,0)),(w.heap.size+1+1+1,Obj.cells #[.slice (some ⟨w.heap.size,0,none⟩) 2 2,.slice (some ⟨w.heap.size+1+1,0,none⟩) 1 1,.bool true,.slice (some ⟨u2.heap.size+1,0,none⟩) 1 1] 26 (0,0)),(u2.heap.size+1,Obj.cells #[.int .i64 (-1),.int .i64 0] 67 (0,0)),(u2.heap.size,Obj.cells #[.int .i64 3,.int .i64 0,.int .i64 0,.int .i64 0,.slice a1 2 c1] 39 (0,0)),(w.heap.size+1+1,Obj.cells #[.int .i64 3,.int .i64 0,.slice none 0 0,.int .i64 0,.int .i64 0,.int .i64 0,.int .i64 0,.slice (some ⟨w.heap.size+1,0,none⟩) 2 2,.slice none 0 0,.slice none 0 0] 51 (0,0)),(w.heap.size+1,Obj.cells #[.int .i64 0,.int .i64 1] 3 (0,0)),(w.heap.size,Obj.cells #[.string ⟨#[120]⟩,.int .i64 0,.int .i64 2,.string ⟨#[121]⟩,.int .i64 0,.int .i64 2] 49 (0,0))] u5):=K13.out.step hb5
  clear C5 hb5 K12 K13 hV9 HO6 HO7 HP3 HP4;have C6:=y1D u5 (HG.out _ K14.out.1);unfold ktA at C6;go_wp2_with fail
  refine cA C6 ?_;rintro e u6 ⟨rfl,hb6⟩;have HO9:Hid (u6.ownsRow B1 3 1 (.slice a1 2 c1) 2 [.int .i64 0,.int .i64 1]):=yO HO8.out hb6;have HP6:Hid (u6.ownsRow B2 3 1 (.slice a2 2 c2) 2 [.int .i64 2,.int .i64 0]):=yO HP5.out hb6
  have K15:Hid (Keeps w [(u4.heap.size,Obj.cells #[.int .i64 6,.int .i64 0,.int .i64 0,.int .i64 6,.slice none 0 0] 39 (0,0)),(u3.heap.size,Obj.cells #[.int .i64 4,.int .i64 0,.int .i64 (-2),.int .i64 0,.slice a2 2 c2] 39 (0,0)),(w.heap.size+1+1+1,Obj.cells #[.slice (some ⟨w.heap.size,0,none⟩) 2 2,.slice (some ⟨w.heap.size+1+1,0,none⟩) 1 1,.bool true,.slice (some ⟨u2.heap.size+1,0,none⟩) 1 1] 26 (0,0)),(u2.heap.size+1,Obj.cells #[.int .i64 (-1),.int .i64 0] 67 (0,0)),(u2.heap.size,Obj.cells #[.int .i64 3,.int .i64 0,.int .i64 0,.int .i64 0,.slice a1 2 c1] 39 (0,0)),(w.heap.size+1+1,Obj.cells #[.int .i64 3,.int .i64 0,.slice none 0 0,.int .i64 0,.int .i64 0,.int .i64 0,.int .i64 0,.slice (some ⟨w.heap.size+1,0,none⟩) 2 2,.slice none 0 0,.slice none 0 0] 51 (0,0)),(w.heap.size+1,Obj.cells #[.int .i64 0,.int .i64 1] 3 (0,0)),(w.heap.size,Obj.cells #[.string ⟨#[120]⟩,.int .i64 0,.int .i64 2,.string ⟨#[121]⟩,.int .i64 0,.int .i64 2] 49 (0,0))] u6):=K14.out.step hb6
  clear C6 hb6 K14 HO8 HP5;obtain ⟨Vy,hVy⟩:∃ V,u6.alloc (.cells #[.int .i64 0,.int .i64 0,.int .i64 0,.int .i64 0,.int .i64 0,.int .i64 0,.int .i64 0,.int .i64 0,.int .i64 0,.int .i64 0,.int .i64 0,.int .i64 0,.int .i64 0,.int .i64 0,.int .i64 0,.int .i64 0,.int .i64 0,.int .i64 0,.int .i64 0] 55)=V:=⟨_,rfl⟩;have HY:Hid (Vy.heap[u6.heap.size]?=some (.cells zW 55 (0,0))):=by show _=_;rw [<-hVy];exact heap_alloc_new u6 _
  have hR:=XV K15.out wtK;have hVy':u6.alloc (.cells zW 55)=Vy:=hVy;rw [hVy'] at hR;have HR:Hid _:=hR;clear hR hVy';go_wp2_with (refine wpList_store_row rfl 55 (.tmp 10) (.tmp 55) rfl u6.heap.size wtK (by rfl) (by rfl) 55 zW HY.out infW rfl (by simp [wtK,Value.oneCell']) ?_)
  have hR:=HR.out;obtain ⟨V10,hV10⟩:∃ V,Vy.setRow u6.heap.size wtK=V:=⟨_,rfl⟩;rw [hV10] at hR ⊢;obtain ⟨hb10,k16⟩:=hR
  have K16:Hid (Keeps w [(u6.heap.size,Obj.cells wtK 55 (0,0)),(u4.heap.size,Obj.cells #[.int .i64 6,.int .i64 0,.int .i64 0,.int .i64 6,.slice none 0 0] 39 (0,0)),(u3.heap.size,Obj.cells #[.int .i64 4,.int .i64 0,.int .i64 (-2),.int .i64 0,.slice a2 2 c2] 39 (0,0)),(w.heap.size+1+1+1,Obj.cells #[.slice (some ⟨w.heap.size,0,none⟩) 2 2,.slice (some ⟨w.heap.size+1+1,0,none⟩) 1 1,.bool true,.slice (some ⟨u2.heap.size+1,0,none⟩) 1 1] 26 (0,0)),(u2.heap.size+1,Obj.cells #[.int .i64 (-1),.int .i64 0] 67 (0,0)),(u2.heap.size,Obj.cells #[.int .i64 3,.int .i64 0,.int .i64 0,.int .i64 0,.slice a1 2 c1] 39 (0,0)),(w.heap.size+1+1,Obj.cells #[.int .i64 3,.int .i64 0,.slice none 0 0,.int .i64 0,.int .i64 0,.int .i64 0,.int .i64 0,.slice (some ⟨w.heap.size+1,0,none⟩) 2 2,.slice none 0 0,.slice none 0 0] 51 (0,0)),(w.heap.size+1,Obj.cells #[.int .i64 0,.int .i64 1] 3 (0,0)),(w.heap.size,Obj.cells #[.string ⟨#[120]⟩,.int .i64 0,.int .i64 2,.string ⟨#[121]⟩,.int .i64 0,.int .i64 2] 49 (0,0))] V10):=k16
  clear k16 HR hVy HY;have HO10:Hid (V10.ownsRow B1 3 1 (.slice a1 2 c1) 2 [.int .i64 0,.int .i64 1]):=yO HO9.out hb10;have HP7:Hid (V10.ownsRow B2 3 1 (.slice a2 2 c2) 2 [.int .i64 2,.int .i64 0]):=yO HP6.out hb10;have C7:=y1A V10 (HG.out _ K16.out.1);unfold ktB at C7;clear hb10;refine cA C7 ?_;rintro e u7 ⟨⟨fp,rfl⟩,hb7⟩;have HO11:Hid (u7.ownsRow B1 3 1 (.slice a1 2 c1) 2 [.int .i64 0,.int .i64 1]):=yO HO10.out hb7;have HP8:Hid (u7.ownsRow B2 3 1 (.slice a2 2 c2) 2 [.int .i64 2,.int .i64 0]):=yO HP7.out hb7
  have K17:Hid (Keeps w [(u6.heap.size,Obj.cells wtK 55 (0,0)),(u4.heap.size,Obj.cells #[.int .i64 6,.int .i64 0,.int .i64 0,.int .i64 6,.slice none 0 0] 39 (0,0)),(u3.heap.size,Obj.cells #[.int .i64 4,.int .i64 0,.int .i64 (-2),.int .i64 0,.slice a2 2 c2] 39 (0,0)),(w.heap.size+1+1+1,Obj.cells #[.slice (some ⟨w.heap.size,0,none⟩) 2 2,.slice (some ⟨w.heap.size+1+1,0,none⟩) 1 1,.bool true,.slice (some ⟨u2.heap.size+1,0,none⟩) 1 1] 26 (0,0)),(u2.heap.size+1,Obj.cells #[.int .i64 (-1),.int .i64 0] 67 (0,0)),(u2.heap.size,Obj.cells #[.int .i64 3,.int .i64 0,.int .i64 0,.int .i64 0,.slice a1 2 c1] 39 (0,0)),(w.heap.size+1+1,Obj.cells #[.int .i64 3,.int .i64 0,.slice none 0 0,.int .i64 0,.int .i64 0,.int .i64 0,.int .i64 0,.slice (some ⟨w.heap.size+1,0,none⟩) 2 2,.slice none 0 0,.slice none 0 0] 51 (0,0)),(w.heap.size+1,Obj.cells #[.int .i64 0,.int .i64 1] 3 (0,0)),(w.heap.size,Obj.cells #[.string ⟨#[120]⟩,.int .i64 0,.int .i64 2,.string ⟨#[121]⟩,.int .i64 0,.int .i64 2] 49 (0,0))] u7):=K16.out.step hb7
  clear C7 hb7 K15 K16 HO9 HO10 HP6 HP7 hV10;obtain ⟨Vx,hVx⟩:∃ V,u7.alloc (.cells #[.int .i64 0,.int .i64 0,.int .i64 0,.int .i64 0,.int .i64 0,.int .i64 0,.int .i64 0,.int .i64 0,.int .i64 0,.int .i64 0,.int .i64 0,.int .i64 0,.int .i64 0,.int .i64 0,.int .i64 0,.int .i64 0,.int .i64 0,.int .i64 0,.int .i64 0] 55)=V:=⟨_,rfl⟩;have HX:Hid (Vx.heap[u7.heap.size]?=some (.cells zW 55 (0,0))):=by show _=_;rw [<-hVx];exact heap_alloc_new u7 _
  have hR:=XV K17.out zW;have hVx':u7.alloc (.cells zW 55)=Vx:=hVx;rw [hVx'] at hR;obtain ⟨V11,hV11⟩:∃ V,Vx.setRow u7.heap.size zW=V:=⟨_,rfl⟩;rw [hV11] at hR;have zV11:V11.heap.size=u7.heap.size+1:=by
    have h1:V11.heap.size=Vx.heap.size:=by rw [<-hV11];simp [World.setRow]
    have h2:Vx.heap.size=u7.heap.size+1:=by rw [<-hVx];exact Array.size_push _
    omega
  have hb11:=hR.1
  have K18:Hid (Keeps w [(u6.heap.size,Obj.cells wtK 55 (0,0)),(u4.heap.size,Obj.cells #[.int .i64 6,.int .i64 0,.int .i64 0,.int .i64 6,.slice none 0 0] 39 (0,0)),(u3.heap.size,Obj.cells #[.int .i64 4,.int .i64 0,.int .i64 (-2),.int .i64 0,.slice a2 2 c2] 39 (0,0)),(w.heap.size+1+1+1,Obj.cells #[.slice (some ⟨w.heap.size,0,none⟩) 2 2,.slice (some ⟨w.heap.size+1+1,0,none⟩) 1 1,.bool true,.slice (some ⟨u2.heap.size+1,0,none⟩) 1 1] 26 (0,0)),(u2.heap.size+1,Obj.cells #[.int .i64 (-1),.int .i64 0] 67 (0,0)),(u2.heap.size,Obj.cells #[.int .i64 3,.int .i64 0,.int .i64 0,.int .i64 0,.slice a1 2 c1] 39 (0,0)),(w.heap.size+1+1,Obj.cells #[.int .i64 3,.int .i64 0,.slice none 0 0,.int .i64 0,.int .i64 0,.int .i64 0,.int .i64 0,.slice (some ⟨w.heap.size+1,0,none⟩) 2 2,.slice none 0 0,.slice none 0 0] 51 (0,0)),(w.heap.size+1,Obj.cells #[.int .i64 0,.int .i64 1] 3 (0,0)),(w.heap.size,Obj.cells #[.string ⟨#[120]⟩,.int .i64 0,.int .i64 2,.string ⟨#[121]⟩,.int .i64 0,.int .i64 2] 49 (0,0))] V11):=K17.out.step hb11
  clear hVx' hR;obtain ⟨V12,hV12⟩:∃ V,V11.alloc (.cells #[.int .i64 0,.int .i64 1] 3)=V:=⟨_,rfl⟩;have zV12:V12.heap.size=u7.heap.size+2:=by
    have h:V12.heap.size=V11.heap.size+1:=by rw [<-hV12];exact Array.size_push _
    omega
  have hb12:Below V11.heap.size V11 V12:=bAe hV12
  have K19:Hid (Keeps w [(u6.heap.size,Obj.cells wtK 55 (0,0)),(u4.heap.size,Obj.cells #[.int .i64 6,.int .i64 0,.int .i64 0,.int .i64 6,.slice none 0 0] 39 (0,0)),(u3.heap.size,Obj.cells #[.int .i64 4,.int .i64 0,.int .i64 (-2),.int .i64 0,.slice a2 2 c2] 39 (0,0)),(w.heap.size+1+1+1,Obj.cells #[.slice (some ⟨w.heap.size,0,none⟩) 2 2,.slice (some ⟨w.heap.size+1+1,0,none⟩) 1 1,.bool true,.slice (some ⟨u2.heap.size+1,0,none⟩) 1 1] 26 (0,0)),(u2.heap.size+1,Obj.cells #[.int .i64 (-1),.int .i64 0] 67 (0,0)),(u2.heap.size,Obj.cells #[.int .i64 3,.int .i64 0,.int .i64 0,.int .i64 0,.slice a1 2 c1] 39 (0,0)),(w.heap.size+1+1,Obj.cells #[.int .i64 3,.int .i64 0,.slice none 0 0,.int .i64 0,.int .i64 0,.int .i64 0,.int .i64 0,.slice (some ⟨w.heap.size+1,0,none⟩) 2 2,.slice none 0 0,.slice none 0 0] 51 (0,0)),(w.heap.size+1,Obj.cells #[.int .i64 0,.int .i64 1] 3 (0,0)),(w.heap.size,Obj.cells #[.string ⟨#[120]⟩,.int .i64 0,.int .i64 2,.string ⟨#[121]⟩,.int .i64 0,.int .i64 2] 49 (0,0))] V12):=K18.out.step hb12
  have HO13:Hid (V12.ownsRow B1 3 1 (.slice a1 2 c1) 2 [.int .i64 0,.int .i64 1]):=yO (yO HO11.out hb11) hb12;have HP10:Hid (V12.ownsRow B2 3 1 (.slice a2 2 c2) 2 [.int .i64 2,.int .i64 0]):=yO (yO HP8.out hb11) hb12;have gi12:V12.heap[u7.heap.size+1]?=some (.cells #[.int .i64 0,.int .i64 1] 3 (0,0)):=by rw [<-hV12,<-zV11];exact heap_alloc_new V11 _
  have C8:=Yv 3 0 0 _ _ [0,1] V12 (Yf (x:=[0,1]) HO13.out) (XO 0 1 gi12);unfold vdC at C8;have b0:=yb (K18.out.get 5 rfl) 0;have b1:=yb (K18.out.get 5 rfl) 1;have b2:=yb (K18.out.get 5 rfl) 2;have b3:=yb (K18.out.get 5 rfl) 3;have b4:=yb (K18.out.get 5 rfl) 4;dsimp at b0 b1 b2 b3 b4;clear hb11 hb12 gi12;go_wp2_with (refine wpList_store_row rfl 55 (.tmp 12) (.tmp 59) rfl u7.heap.size zW (by rfl) (by rfl) 55 zW HX.out infW rfl (by simp [zW,Value.oneCell']) ?_;rw [hV11]);refine cA C8 ?_;rintro e u8 ⟨rfl,hb8⟩;have HP11:Hid (u8.ownsRow B2 3 1 (.slice a2 2 c2) 2 [.int .i64 2,.int .i64 0]):=yO HP10.out hb8
  have K20:Hid (Keeps w [(u6.heap.size,Obj.cells wtK 55 (0,0)),(u4.heap.size,Obj.cells #[.int .i64 6,.int .i64 0,.int .i64 0,.int .i64 6,.slice none 0 0] 39 (0,0)),(u3.heap.size,Obj.cells #[.int .i64 4,.int .i64 0,.int .i64 (-2),.int .i64 0,.slice a2 2 c2] 39 (0,0)),(w.heap.size+1+1+1,Obj.cells #[.slice (some ⟨w.heap.size,0,none⟩) 2 2,.slice (some ⟨w.heap.size+1+1,0,none⟩) 1 1,.bool true,.slice (some ⟨u2.heap.size+1,0,none⟩) 1 1] 26 (0,0)),(u2.heap.size+1,Obj.cells #[.int .i64 (-1),.int .i64 0] 67 (0,0)),(u2.heap.size,Obj.cells #[.int .i64 3,.int .i64 0,.int .i64 0,.int .i64 0,.slice a1 2 c1] 39 (0,0)),(w.heap.size+1+1,Obj.cells #[.int .i64 3,.int .i64 0,.slice none 0 0,.int .i64 0,.int .i64 0,.int .i64 0,.int .i64 0,.slice (some ⟨w.heap.size+1,0,none⟩) 2 2,.slice none 0 0,.slice none 0 0] 51 (0,0)),(w.heap.size+1,Obj.cells #[.int .i64 0,.int .i64 1] 3 (0,0)),(w.heap.size,Obj.cells #[.string ⟨#[120]⟩,.int .i64 0,.int .i64 2,.string ⟨#[121]⟩,.int .i64 0,.int .i64 2] 49 (0,0))] u8):=K19.out.step hb8
  clear C8 hb8 K17 K18 K19 HO11 HO13 HP8 HP10 hV11 hV12 hVx HX;clear b0 b1 b2 b3 b4;obtain ⟨V13,hV13⟩:∃ V,u8.alloc (.cells #[.int .i64 2,.int .i64 0] 3)=V:=⟨_,rfl⟩;have zV13:V13.heap.size=u8.heap.size+1:=by
    have h:V13.heap.size=u8.heap.size+1:=by rw [<-hV13];exact Array.size_push _
    omega
  have hb13:Below u8.heap.size u8 V13:=bAe hV13
  have K21:Hid (Keeps w [(u6.heap.size,Obj.cells wtK 55 (0,0)),(u4.heap.size,Obj.cells #[.int .i64 6,.int .i64 0,.int .i64 0,.int .i64 6,.slice none 0 0] 39 (0,0)),(u3.heap.size,Obj.cells #[.int .i64 4,.int .i64 0,.int .i64 (-2),.int .i64 0,.slice a2 2 c2] 39 (0,0)),(w.heap.size+1+1+1,Obj.cells #[.slice (some ⟨w.heap.size,0,none⟩) 2 2,.slice (some ⟨w.heap.size+1+1,0,none⟩) 1 1,.bool true,.slice (some ⟨u2.heap.size+1,0,none⟩) 1 1] 26 (0,0)),(u2.heap.size+1,Obj.cells #[.int .i64 (-1),.int .i64 0] 67 (0,0)),(u2.heap.size,Obj.cells #[.int .i64 3,.int .i64 0,.int .i64 0,.int .i64 0,.slice a1 2 c1] 39 (0,0)),(w.heap.size+1+1,Obj.cells #[.int .i64 3,.int .i64 0,.slice none 0 0,.int .i64 0,.int .i64 0,.int .i64 0,.int .i64 0,.slice (some ⟨w.heap.size+1,0,none⟩) 2 2,.slice none 0 0,.slice none 0 0] 51 (0,0)),(w.heap.size+1,Obj.cells #[.int .i64 0,.int .i64 1] 3 (0,0)),(w.heap.size,Obj.cells #[.string ⟨#[120]⟩,.int .i64 0,.int .i64 2,.string ⟨#[121]⟩,.int .i64 0,.int .i64 2] 49 (0,0))] V13):=K20.out.step hb13
  have gi13:V13.heap[u8.heap.size]?=some (.cells #[.int .i64 2,.int .i64 0] 3 (0,0)):=hAe hV13;have C9:=Yv 4 (-2) 0 _ _ [2,0] V13 (Yf (x:=[2,0]) (yO HP11.out hb13)) (XO 2 0 gi13);unfold vdC at C9;have b0:=yb (K20.out.get 2 rfl) 0;have b1:=yb (K20.out.get 2 rfl) 1;have b2:=yb (K20.out.get 2 rfl) 2;have b3:=yb (K20.out.get 2 rfl) 3;have b4:=yb (K20.out.get 2 rfl) 4;dsimp at b0 b1 b2 b3 b4;clear hb13 gi13;go_wp2_with fail
  refine cA C9 ?_;rintro e u9 ⟨rfl,hb9⟩
  have K22:Hid (Keeps w [(u6.heap.size,Obj.cells wtK 55 (0,0)),(u4.heap.size,Obj.cells #[.int .i64 6,.int .i64 0,.int .i64 0,.int .i64 6,.slice none 0 0] 39 (0,0)),(u3.heap.size,Obj.cells #[.int .i64 4,.int .i64 0,.int .i64 (-2),.int .i64 0,.slice a2 2 c2] 39 (0,0)),(w.heap.size+1+1+1,Obj.cells #[.slice (some ⟨w.heap.size,0,none⟩) 2 2,.slice (some ⟨w.heap.size+1+1,0,none⟩) 1 1,.bool true,.slice (some ⟨u2.heap.size+1,0,none⟩) 1 1] 26 (0,0)),(u2.heap.size+1,Obj.cells #[.int .i64 (-1),.int .i64 0] 67 (0,0)),(u2.heap.size,Obj.cells #[.int .i64 3,.int .i64 0,.int .i64 0,.int .i64 0,.slice a1 2 c1] 39 (0,0)),(w.heap.size+1+1,Obj.cells #[.int .i64 3,.int .i64 0,.slice none 0 0,.int .i64 0,.int .i64 0,.int .i64 0,.int .i64 0,.slice (some ⟨w.heap.size+1,0,none⟩) 2 2,.slice none 0 0,.slice none 0 0] 51 (0,0)),(w.heap.size+1,Obj.cells #[.int .i64 0,.int .i64 1] 3 (0,0)),(w.heap.size,Obj.cells #[.string ⟨#[120]⟩,.int .i64 0,.int .i64 2,.string ⟨#[121]⟩,.int .i64 0,.int .i64 2] 49 (0,0))] u9):=K21.out.step hb9
  clear C9 hb9 K20 K21 HP11 hV13;clear b0 b1 b2 b3 b4;have b0:=yb (K22.out.get 0 rfl) 0;have b1:=yb (K22.out.get 0 rfl) 1;have b2:=yb (K22.out.get 0 rfl) 2;have b3:=yb (K22.out.get 0 rfl) 3;have b4:=yb (K22.out.get 0 rfl) 4;have b5:=yb (K22.out.get 0 rfl) 5;dsimp [wtK] at b0 b1 b2 b3 b4 b5;go_wp2_with fail
  go_ret;exact ⟨rfl,K22.out.1⟩
end Go.Proofs.YtjgghimjnbjlbaaGreatDoor

namespace Go.Proofs.YtjgghimjnbjlbaaGreatDoor
open Go Go.RowKit
set_option maxRecDepth 10000
set_option maxHeartbeats 8000000
attribute [local go_sem] Oper.semAt_some
theorem y0T {c d:List Int} {k:Nat} (hk:k<c.length) (hd:k<d.length) (h:c.take k=d.take k) (e:c[k]=d[k]):c.take (k+1)=d.take (k+1):=by
  rw [List.take_succ_eq_append_getElem hk,List.take_succ_eq_append_getElem hd,h,e]
theorem y0U {c d:List Int} {k:Nat} (hk:k<c.length) (hd:k<d.length) (e:c[k]≠d[k]):(c==d)=false:=by
  refine beq_eq_false_iff_ne.2 fun h=>e ?_
  subst h;rfl
theorem Xm (v v':Value) (c d:List Int) (w:World) (h:MInts w v c) (h':MInts w v' d):Calls Tryz.prog 18 #[v,v'] w fun e w'=>e=.returned (.bool (c==d))/\Below w.heap.size w w':=by
  obtain ⟨a,cap,rfl,hl,hc⟩:=h;obtain ⟨a',cap',rfl,hl',hc'⟩:=h';unfold maxLen at hl hl';have HC:Hid (∀ w',Below w.heap.size w w'->∀ j (hj:j<c.length),∃ g o,a=some ⟨g,o,none⟩/\w'.cell? ⟨g,o+j,none⟩=some (.int .i64 c[j])):=fun w' hb j hj=>by
    obtain ⟨g,o,e1,e2,e3⟩:=hc (by omega);exact ⟨g,o,e1,(hb.cell (p:=⟨g,o+j,none⟩) e2).trans (e3 j hj)⟩
  have HC':Hid (∀ w',Below w.heap.size w w'->∀ j (hj:j<d.length),∃ g o,a'=some ⟨g,o,none⟩/\w'.cell? ⟨g,o+j,none⟩=some (.int .i64 d[j])):=fun w' hb j hj=>by
    obtain ⟨g,o,e1,e2,e3⟩:=hc' (by omega);exact ⟨g,o,e1,(hb.cell (p:=⟨g,o+j,none⟩) e2).trans (e3 j hj)⟩
  clear hc hc'
  by_cases hcd:c.length=d.length
  rotate_left
  · have hne:((c.length:Int) != (d.length:Int))=true:=by simp;omega
    have hne2:¬ c.length=d.length:=hcd;have hne3:(c.length==d.length)=false:=by simpa using hcd
    have hne4:(c.length != d.length)=true:=by simpa using hcd
    have HF:Hid ((c==d)=false):=beq_eq_false_iff_ne.2 fun h=>hcd (by rw [h])
    clear hcd;go_enter Tryz.func18,Tryz.ntmps18;go_wp2_with fail
    go_ret;exact ⟨yk HF.out.symm,Below.refl _ _⟩
  have HL:Hid (c.length=d.length):=hcd;rw [<-hcd];clear hcd;go_enter Tryz.func18,Tryz.ntmps18;go_wp2_with fail
  go_loopw [5] (fun iv wr=>∃ k:Nat,iv=.int .i64 (k:Int)/\k<=c.length/\Hid (c.take k=d.take k)/\Hid (Below w.heap.size w wr)) (fun iv _=>c.length-(RowKit.intOf iv).toNat)
  case atStart=>exact ⟨0,rfl,Nat.zero_le _,rfl,Below.refl _ _⟩
  case round=>
    obtain ⟨k,rfl,hk,HT,HBr⟩:=hrel
    by_cases hkn:k<c.length
    · have hkI:(k:Int)<(c.length:Int):=by omega
      have hkd:k<d.length:=by have:=HL.out;omega
      have hkD:(k:Int)<(d.length:Int):=by omega
      obtain ⟨g,o,rfl,x0⟩:=HC.out wr HBr.out k hkn;obtain ⟨g',o',rfl,y0⟩:=HC'.out wr HBr.out k hkd
      by_cases he:c[k]=d[k]
      · have HT2:Hid (c.take (k+1)=d.take (k+1)):=y0T hkn hkd HT.out he
        obtain ⟨y,hy⟩:∃ y,c[k]=y:=⟨_,rfl⟩;rw [<-he] at y0;rw [hy] at x0 y0;have hyy:(y==y)=true:=by simp
        clear hy he;go_wp2_with fail
        go_region
        all_goals
          go_wp2_with fail
          go_roundw
          case rel=>exact ⟨k+1,by go_num,hkn,HT2,HBr.out.drew⟩
          case measure=>simp [RowKit.intOf];omega
      · have HF:Hid ((c==d)=false):=y0U hkn hkd he
        obtain ⟨y,hy⟩:∃ y,c[k]=y:=⟨_,rfl⟩;obtain ⟨z,hz⟩:∃ z,d[k]=z:=⟨_,rfl⟩;rw [hy,hz] at he;rw [hy] at x0;rw [hz] at y0;have hyz:(y != z)=true:=by simpa using he
        clear hy hz he;go_wp2_with fail
        go_region
        all_goals
          go_wp2_with fail
          go_ret;exact ⟨yk HF.out.symm,HBr.out.drew⟩
    · have hke:k=c.length:=by omega
      have HF:Hid ((c==d)=true):=by
        have h1:=HT.out;rw [hke,List.take_length,HL.out,List.take_length] at h1;show _=_;rw [h1];exact beq_self_eq_true _
      have hkI:¬ (k:Int)<(c.length:Int):=by omega
      go_wp2_with fail
      go_ret;exact ⟨yk HF.out.symm,HBr.out⟩
def zm:List Int->List Int->Bool
  | [],d=>decide (0<d.length)
  | _ :: _,[]=>false
  | a :: c,b :: d=>if a=b then zm c d else decide (a<b)
theorem y0V {c d:List Int} {k:Nat} (hk:k<c.length) (hd:k<d.length):zm (c.drop k) (d.drop k)=if c[k]=d[k] then zm (c.drop (k+1)) (d.drop (k+1)) else decide (c[k]<d[k]):=by
  rw [List.drop_eq_getElem_cons hk,List.drop_eq_getElem_cons hd];rfl
theorem y0W {c d:List Int} {k:Nat} (h:¬ (k<c.length/\k<d.length)) (hk:k<=c.length) (hd:k<=d.length):zm (c.drop k) (d.drop k)=decide (c.length<d.length):=by
  by_cases hc:k=c.length
  · subst hc
    rw [List.drop_length];unfold zm;rw [List.length_drop];rw [decide_eq_decide];omega
  · have hd2:k=d.length:=by omega
    subst hd2;rw [List.drop_length,List.drop_eq_getElem_cons (by omega:d.length<c.length)];exact (decide_eq_false (by omega)).symm
theorem y0X (v v':Value) (c d:List Int) (w:World) (h:MInts w v c) (h':MInts w v' d):Calls Tryz.prog 16 #[v,v'] w fun e w'=>e=.returned (.bool (zm c d))/\Below w.heap.size w w':=by
  obtain ⟨a,cap,rfl,hl,hc⟩:=h;obtain ⟨a',cap',rfl,hl',hc'⟩:=h';unfold maxLen at hl hl';have HC:Hid (∀ w',Below w.heap.size w w'->∀ j (hj:j<c.length),∃ g o,a=some ⟨g,o,none⟩/\w'.cell? ⟨g,o+j,none⟩=some (.int .i64 c[j])):=fun w' hb j hj=>by
    obtain ⟨g,o,e1,e2,e3⟩:=hc (by omega);exact ⟨g,o,e1,(hb.cell (p:=⟨g,o+j,none⟩) e2).trans (e3 j hj)⟩
  have HC':Hid (∀ w',Below w.heap.size w w'->∀ j (hj:j<d.length),∃ g o,a'=some ⟨g,o,none⟩/\w'.cell? ⟨g,o+j,none⟩=some (.int .i64 d[j])):=fun w' hb j hj=>by
    obtain ⟨g,o,e1,e2,e3⟩:=hc' (by omega);exact ⟨g,o,e1,(hb.cell (p:=⟨g,o+j,none⟩) e2).trans (e3 j hj)⟩
  clear hc hc';go_enter Tryz.func16,Tryz.ntmps16;go_wp2_with fail
  go_loopw [5] (fun iv wr=>∃ k:Nat,iv=.int .i64 (k:Int)/\k<=c.length/\k<=d.length/\Hid (zm c d=zm (c.drop k) (d.drop k))/\Hid (Below w.heap.size w wr)) (fun iv _=>c.length-(RowKit.intOf iv).toNat)
  case atStart=>exact ⟨0,rfl,Nat.zero_le _,Nat.zero_le _,rfl,Below.refl _ _⟩
  case round=>
    obtain ⟨k,rfl,hk,hkd0,HT,HBr⟩:=hrel
    by_cases hb:k<c.length/\k<d.length
    · obtain ⟨hkn,hkd⟩:=hb
      have hkI:(k:Int)<(c.length:Int):=by omega
      have hkD:(k:Int)<(d.length:Int):=by omega
      obtain ⟨g,o,rfl,x0⟩:=HC.out wr HBr.out k hkn;obtain ⟨g',o',rfl,y0⟩:=HC'.out wr HBr.out k hkd;have hst:=y0V hkn hkd
      by_cases he:c[k]=d[k]
      · rw [if_pos he] at hst
        have HT2:Hid (zm c d=zm (c.drop (k+1)) (d.drop (k+1))):=HT.out.trans hst;obtain ⟨y,hy⟩:∃ y,c[k]=y:=⟨_,rfl⟩;rw [<-he] at y0;rw [hy] at x0 y0;have hyy:(y==y)=true:=by simp
        clear hy he hst;go_wp2_with fail
        go_quiet (fail)
        go_wp2_with fail
        go_roundw
        case rel=>exact ⟨k+1,by go_num,hkn,hkd,HT2,Ye HBr.out _⟩
        case measure=>simp [RowKit.intOf];omega
      · rw [if_neg he] at hst
        obtain ⟨y,hy⟩:∃ y,c[k]=y:=⟨_,rfl⟩;obtain ⟨z,hz⟩:∃ z,d[k]=z:=⟨_,rfl⟩;rw [hy,hz] at he hst;rw [hy] at x0;rw [hz] at y0;have HF:Hid (zm c d=decide (y<z)):=HT.out.trans hst;have hyz:(y != z)=true:=by simpa using he
        have x1:∀ n,(wr.drewN n).cell? ⟨g,o+k,none⟩=some (.int .i64 y):=fun _=>x0
        have y1:∀ n,(wr.drewN n).cell? ⟨g',o'+k,none⟩=some (.int .i64 z):=fun _=>y0
        clear hy hz he hst;go_wp2_with fail
        go_quiet (fail)
        go_wp2_with fail
        go_quiet (fail)
        go_wp2_with fail
        go_ret;exact ⟨yk HF.out.symm,Ye (Ye HBr.out _) _⟩
    · have HF:Hid (zm c d=decide (c.length<d.length)):=HT.out.trans (y0W hb hk hkd0)
      by_cases hkc:k<c.length
      · have hkI:(k:Int)<(c.length:Int):=by omega
        have hkD:¬ (k:Int)<(d.length:Int):=by omega
        clear hb;go_wp2_with fail
        go_ret;exact ⟨yk HF.out.symm,HBr.out⟩
      · have hkI:¬ (k:Int)<(c.length:Int):=by omega
        clear hb;go_wp2_with fail
        go_ret;exact ⟨yk HF.out.symm,HBr.out⟩
end Go.Proofs.YtjgghimjnbjlbaaGreatDoor

namespace Go.Proofs.YtjgghimjnbjlbaaGreatDoor
open Go Go.RowKit
theorem Xt (r:List (List Int)) (y:List Int):∀ (n:Nat) (a b:Int),(b :: y)∈blkL r a n↔(a<=b/\b<a+n)/\y∈r
  | 0, a, b => by
    unfold blkL
    constructor
    · intro h;cases h
    · rintro ⟨⟨h1,h2⟩,_⟩;omega
  | n + 1, a, b => by
    unfold blkL;rw [List.mem_append,Xt r y n (a+1) b,List.mem_map]
    constructor
    · rintro (⟨z,hz,e⟩ | ⟨⟨h1,h2⟩,h3⟩)
      · injection e with e1 e2
        subst e1 e2;exact ⟨⟨Int.le_refl _,by omega⟩,hz⟩
      · exact ⟨⟨by omega,by omega⟩,h3⟩
    · rintro ⟨⟨h1,h2⟩,h3⟩
      by_cases e:b=a
      · exact .inl ⟨y,h3,by rw [e]⟩
      · exact .inr ⟨⟨by omega,by omega⟩,h3⟩
theorem Xu (r:List (List Int)):∀ (n:Nat) (a:Int),[] ∉ blkL r a n
  | 0,a,h=>by cases h
  | n + 1, a, h => by
    rcases List.mem_append.1 h with h | h
    · obtain ⟨z,_,e⟩:=List.mem_map.1 h
      cases e
    · exact Xu r n (a+1) h
theorem Xv:∀ (vs:List Md.Vr) (x:List Int),x∈allV vs↔Md.insideB vs x=true
  | [],[]=>by simp [allV,Md.insideB]
  | [],_ :: _=>by simp [allV,Md.insideB]
  | v :: vs, [] => by
    unfold allV Md.insideB;exact ⟨fun h=>absurd h (Xu _ _ _),fun h=>by cases h⟩
  | v :: vs, b :: y => by
    unfold allV Md.insideB;rw [Xt,Xv vs y,Bool.and_eq_true,decide_eq_true_iff]
    constructor
    · rintro ⟨⟨h1,h2⟩,h3⟩;exact ⟨⟨h1,by omega⟩,h3⟩
    · rintro ⟨⟨h1,h2⟩,h3⟩;exact ⟨⟨h1,by omega⟩,h3⟩
def Y4 (l:List (List Int)):Prop:=l.Pairwise fun x y=>zm x y=true
theorem y18 {l:List (List Int)} (a:Int) (h:Y4 l):Y4 (l.map (a :: ·)):=by
  refine List.Pairwise.map _ (fun x y hxy=>?_) h;show (if a=a then zm x y else _)=true;rw [if_pos rfl];exact hxy
theorem Xw (r:List (List Int)):∀ (n:Nat) (a:Int),∀ x∈blkL r a n,∃ b y,x=b :: y/\a<=b
  | 0,a,x,h=>by cases h
  | n + 1, a, x, h => by
    rcases List.mem_append.1 h with h | h
    · obtain ⟨z,_,e⟩:=List.mem_map.1 h
      exact ⟨a,z,e.symm,Int.le_refl _⟩
    · obtain ⟨b,y,e,hb⟩:=Xw r n (a+1) x h
      exact ⟨b,y,e,by omega⟩
theorem Xx {r:List (List Int)} (h:Y4 r):∀ (n:Nat) (a:Int),Y4 (blkL r a n)
  | 0,a=>List.Pairwise.nil
  | n + 1, a => by
    refine List.pairwise_append.2 ⟨y18 a h,Xx h n (a+1),fun x hx y hy=>?_⟩;obtain ⟨z,_,rfl⟩:=List.mem_map.1 hx;obtain ⟨b,t,rfl,hb⟩:=Xw r n (a+1) y hy;show (if a=b then _ else decide (a<b))=true;rw [if_neg (by omega)];exact decide_eq_true (by omega)
theorem Xy:∀ vs:List Md.Vr,Y4 (allV vs)
  | []=>List.pairwise_singleton _ _
  | _ :: vs=>Xx (Xy vs) _ _
theorem Xz:∀ {vs:List Md.Vr} {x:List Int},(∀ v∈vs,v.lo<=v.hi/\-1000000000<=v.lo/\v.hi<=1000000000)->Md.insideB vs x=true->x.length=vs.length/\x.all Md.numB=true
  | [],[],_,_=>⟨rfl,rfl⟩
  | [],_ :: _,_,h=>by cases h
  | _ :: _,[],_,h=>by cases h
  | v :: vs, b :: x, hv, h => by
    unfold Md.insideB at h;rw [Bool.and_eq_true,decide_eq_true_iff] at h;have h1:=Xz (fun u hu=>hv u (List.mem_cons_of_mem _ hu)) h.2;have h2:=hv v List.mem_cons_self;refine ⟨by rw [List.length_cons,List.length_cons,h1.1],?_⟩;rw [List.all_cons,h1.2,Bool.and_true];unfold Md.numB;exact decide_eq_true (by omega)
theorem XA {m:Md.Mo} (h:(Md.product m 100000).2=true) (x:List Int):Md.solution m x=true↔x∈yI m:=by
  have hc:=xO h;have hr:=Md.right_of hc;unfold Md.solution yI;rw [List.mem_filter,Xv,Bool.and_eq_true,Bool.and_eq_true,decide_eq_true_iff]
  constructor
  · rintro ⟨⟨_,h1⟩,h2⟩
    obtain ⟨h3,h4⟩:=Xz (Yt hc) h1;refine ⟨h1,List.all_eq_true.2 fun c hcm=>?_⟩;unfold Md.holds;rw [h3,hr.con c hcm,h4,List.all_eq_true.1 h2 c hcm];rfl
  · rintro ⟨h1,h2⟩
    refine ⟨⟨hc,h1⟩,List.all_eq_true.2 fun c hcm=>?_⟩;have:=List.all_eq_true.1 h2 c hcm;unfold Md.holds at this;rw [Bool.and_eq_true] at this;exact this.2
theorem y19 {m:Md.Mo} (h:(Md.check m).2=0):(Md.check (Md.goalOf m)).2=0:=by
  unfold Md.check at h ⊢;show (if Md.fewB m.vars.length 32 then ((0:Int),(40:Int)) else _).2=0
  split at h
  · cases h
  rename_i h1
  rw [if_neg h1];show (match Md.firstBad m.vars.length (Md.vFault m.vars) with | some i=>((i:Int),Md.vFault m.vars i) | none=>_).2=0
  split at h
  · rename_i i hi
    rw [hi];exact h
  · rename_i hn
    rw [hn]
    split at h
    · cases h
    · split at h
      · rename_i i hi
        have:=List.find?_some hi;have h':Md.cFault m.cons m.vars.length i=0:=h;rw [h'] at this
        cases this
      · have e1:Md.firstBad (Md.goalOf m).cons.length (Md.cFault (Md.goalOf m).cons (Md.goalOf m).vars.length)=none:=rfl
        dsimp only;rw [if_neg (show ¬ 64<(Md.goalOf m).cons.length from Nat.not_lt.2 (Nat.zero_le _)),e1];dsimp only
        split at h
        · rename_i hg
          show (if Md.goalFault m=0 then ((0:Int),(0:Int)) else _).2=0;rw [if_pos hg]
        · rename_i hg
          exact absurd h hg
theorem XB {m:Md.Mo} (h:(Md.check m).2=0) (x:List Int):Md.worth (Md.goalOf m) x=Md.worth m x:=by
  unfold Md.worth;rw [y19 h,h];rfl
theorem xR (m:Md.Mo):∀ (L:List (List Int)) (o:Option (Int × List Int)),(match o with | none=>True | some (b,y)=>b=Md.worth (Md.goalOf m) y)->match L.foldl (bstS m) o with
    | none=>o=none/\L=[]
    | some (b,y)=>b=Md.worth (Md.goalOf m) y/\(y∈L∨∃ c,o=some (c,y))/\(∀ x∈L,b<=Md.worth (Md.goalOf m) x)/\∀ c z,o=some (c,z)->b<=c
  | [],none,_=>⟨rfl,rfl⟩
  | [],some (b,y),h=>⟨h,.inr ⟨b,rfl⟩,fun x hx=>(by cases hx),fun c z e=>by cases e;exact Int.le_refl _⟩
  | x :: L, none, _ => by
    have ih:=xR m L (some (Md.worth (Md.goalOf m) x,x)) rfl;rw [List.foldl_cons];show match L.foldl (bstS m) (some (Md.worth (Md.goalOf m) x,x)) with | none=>_ | some (b,y)=>_
    split
    · rename_i he
      rw [he] at ih
      cases ih.1
    · rename_i b y he
      rw [he] at ih;obtain ⟨h1,h2,h3,h4⟩:=ih;refine ⟨h1,.inl ?_,fun z hz=>?_,fun c z e=>by cases e⟩
      · rcases h2 with h2 | ⟨c,e⟩
        · exact List.mem_cons_of_mem _ h2
        · injection e with e;injection e with _ e;subst e;exact List.mem_cons_self
      · rcases List.mem_cons.1 hz with rfl | hz
        · exact h4 _ _ rfl
        · exact h3 z hz
  | x :: L, some (b0, y0), h => by
    rw [List.foldl_cons]
    by_cases hlt:Md.worth (Md.goalOf m) x<b0
    · have e0:bstS m (some (b0,y0)) x=some (Md.worth (Md.goalOf m) x,x):=if_pos hlt
      rw [e0];have ih:=xR m L (some (Md.worth (Md.goalOf m) x,x)) rfl
      split
      · rename_i he
        rw [he] at ih
        cases ih.1
      · rename_i b y he
        rw [he] at ih;obtain ⟨h1,h2,h3,h4⟩:=ih;refine ⟨h1,.inl ?_,fun z hz=>?_,fun c z e=>?_⟩
        · rcases h2 with h2 | ⟨c,e⟩
          · exact List.mem_cons_of_mem _ h2
          · injection e with e;injection e with _ e;subst e;exact List.mem_cons_self
        · rcases List.mem_cons.1 hz with rfl | hz
          · exact h4 _ _ rfl
          · exact h3 z hz
        · have:=h4 _ _ rfl
          injection e with e;injection e with e _;omega
    · have e0:bstS m (some (b0,y0)) x=some (b0,y0):=if_neg hlt
      rw [e0];have ih:=xR m L (some (b0,y0)) h
      split
      · rename_i he
        rw [he] at ih
        cases ih.1
      · rename_i b y he
        rw [he] at ih;obtain ⟨h1,h2,h3,h4⟩:=ih;refine ⟨h1,h2.elim (fun h=>.inl (List.mem_cons_of_mem _ h)) .inr,fun z hz=>?_,h4⟩;rcases List.mem_cons.1 hz with rfl | hz
        · have:=h4 _ _ rfl;omega
        · exact h3 z hz
structure TrueAt (m:Md.Mo) (S:List (List Int)) (d:Int × Int × List Int) (any:List Int):Prop where
  sol:∀ i (h:i<S.length),Md.solution m S[i]=true
  rise:∀ i (h:i+1<S.length),zm S[i] S[i+1]=true
  least:m.has=true->∀ i (h:i<S.length),¬ Md.worth m S[i]<d.2.1
  mine:Md.solution m any=S.any (·==any)
  among:S.any (·==d.2.2)=decide (0<S.length)
  kind:decide (0<S.length)=(d.1 != 2)
  fin:S.length=0∨(m.has=false/\d.1=3)∨(m.has=true/\d.1=4/\d.2.1=Md.worth m d.2.2)
theorem y12 (m:Md.Mo) (any:List Int) (h:(Md.product m 100000).2=true):TrueAt m (yt m) (ansD m) any:=by
  have hS:yt m=yI m:=if_pos h;have hc:=xO h;have hrise:Y4 (yI m):=(Xy m.vars).sublist List.filter_sublist;rw [hS];refine ⟨fun i hi=>(XA h _).2 (List.getElem_mem hi),fun i hi=>?_,fun hh i hi=>?_,?_,?_,?_,?_⟩
  · exact List.pairwise_iff_getElem.1 hrise i (i+1) (by omega) hi (by omega)
  · unfold ansD
    rw [if_pos hh];unfold lstD;rw [hS];have hb:=xR m (yI m) none trivial;unfold bst
    split
    · rename_i he
      rw [he] at hb;have:=hb.2;rw [this] at hi
      cases hi
    · rename_i b y he
      rw [he] at hb;have:=hb.2.2.1 _ (List.getElem_mem hi);rw [XB hc] at this;show ¬ Md.worth m (yI m)[i]<b;omega
  · rw [Bool.eq_iff_iff,XA h,List.any_eq_true]
    constructor
    · exact fun hm=>⟨any,hm,beq_self_eq_true _⟩
    · rintro ⟨x,hx,e⟩
      rw [<-eq_of_beq e];exact hx
  · unfold ansD
    cases hh:m.has with
    | true =>
      rw [if_pos rfl];unfold lstD;rw [hS];have hb:=xR m (yI m) none trivial;unfold bst
      split
      · rename_i he
        rw [he] at hb;rw [hb.2];rfl
      · rename_i b y he
        rw [he] at hb;have hy:y∈yI m:=hb.2.1.elim id fun ⟨c,e⟩=>by cases e
        have h1:0<(yI m).length:=List.length_pos_of_mem hy;rw [decide_eq_true h1];exact List.any_eq_true.2 ⟨y,hy,beq_self_eq_true _⟩
    | false =>
      rw [if_neg (by decide)];unfold fstD;rw [hS]
      cases hl:yI m with
      | nil=>rfl
      | cons x q=>exact List.any_eq_true.2 ⟨x,List.mem_cons_self,beq_self_eq_true _⟩
  · unfold ansD
    cases hh:m.has with
    | true =>
      rw [if_pos rfl];unfold lstD;rw [hS];have hb:=xR m (yI m) none trivial;unfold bst
      split
      · rename_i he
        rw [he] at hb;rw [hb.2];rfl
      · rename_i b y he
        rw [he] at hb;have hy:y∈yI m:=hb.2.1.elim id fun ⟨c,e⟩=>by cases e
        exact decide_eq_true (List.length_pos_of_mem hy)
    | false =>
      rw [if_neg (by decide)];unfold fstD;rw [hS]
      cases hl:yI m with
      | nil=>rfl
      | cons x q=>exact decide_eq_true (Nat.succ_pos _)
  · by_cases h0:(yI m).length=0
    · exact .inl h0
    refine .inr ?_;unfold ansD
    cases hh:m.has with
    | true =>
      refine .inr ⟨rfl,?_⟩;rw [if_pos rfl];unfold lstD;rw [hS];have hb:=xR m (yI m) none trivial;unfold bst
      split
      · rename_i he
        rw [he] at hb;exact absurd (by rw [hb.2];rfl) h0
      · rename_i b y he
        rw [he] at hb;exact ⟨rfl,hb.1.trans (XB hc y)⟩
    | false =>
      refine .inl ⟨rfl,?_⟩;rw [if_neg (by decide)];unfold fstD;rw [hS]
      cases hl:yI m with
      | nil=>rw [hl] at h0;exact absurd rfl h0
      | cons x q=>rfl
theorem y13 {S:List (List Int)} {i:Nat} (h:i<S.length) (x:List Int):(S.take (i+1)).any (·==x)=((S.take i).any (·==x)||(S[i]==x)):=by
  rw [List.take_succ_eq_append_getElem h,List.any_append];simp
end Go.Proofs.YtjgghimjnbjlbaaGreatDoor
