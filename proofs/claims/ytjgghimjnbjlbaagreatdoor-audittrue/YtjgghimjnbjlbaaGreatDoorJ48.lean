/-
  Put together: AuSols, AuFun, AtSols, AtFun, AuCount, AuFirst, AuLeast.
-/
import Derived.Test.YtjgghimjnbjlbaaGreatDoorJ04
import Derived.Test.YtjgghimjnbjlbaaGreatDoorK5
import Derived.Test.YtjgghimjnbjlbaaGreatDoorAuHold
import Derived.Test.YtjgghimjnbjlbaaGreatDoorAuClone
import Derived.Test.YtjgghimjnbjlbaaGreatDoorJ46
import Derived.Test.YtjgghimjnbjlbaaGreatDoorMdCopy
import Derived.Test.YtjgghimjnbjlbaaGreatDoorJ19
namespace Go.Proofs.YtjgghimjnbjlbaaGreatDoor
open Go Go.RowKit Go.Shelf Go.Lib
set_option maxRecDepth 10000
set_option maxHeartbeats 8000000
attribute [local go_sem] Oper.semAt_some
def yC (m:Md.Mo) (x:List Int):Bool:=m.cons.all fun c=>Md.holds c x
def yI (m:Md.Mo):List (List Int):=(allV m.vars).filter (yC m)
def YsAt (B:Nat) (x:List Int) (vs:Array Value) (W:World):Prop:=∃ v,vs=#[v]/\W.ownsRow B 3 1 v x.length (x.map (.int .i64))
theorem VlAt.ints {w:World} {b:Nat} {x:List Int} (h:VlAt w b x) (hl:x.length<=1000000) (c:Nat):MInts w (.slice (some ⟨b,0,none⟩) x.length c) x:=by
  refine ⟨_,c,rfl,by unfold maxLen;omega,fun _=>⟨b,0,rfl,h.lt,fun j hj=>?_⟩⟩;rw [Nat.zero_add];exact h.cell j _ (List.getElem?_eq_getElem hj)
def y1H (m:Md.Mo) (J2:List (List Int)->World->Prop) (W:World):Prop:=∃ p x q,yI m=p++x :: q/\J2 (p++[x]) W
theorem XH {p:List Int->Bool} {pre post:List (List Int)} {x:List Int} (hp:p x=true):(pre++x :: post).filter p=pre.filter p++x :: post.filter p:=by simp [hp]
theorem y1p (n:Nat) (hn:3<=n) (Bo:Nat) (m:Md.Mo) (v1 v2 v3:Value) (T0:Nat->Prop) (w:World) (hlo:∀ v∈m.vars,v.lo<=v.hi/\-1000000000000000000<=v.lo/\v.hi<=1000000000000000000) (hvl:m.vars.length<=1000000)
    (hV:∀ W,w.heap.size<=W.heap.size->(∀ k,T0 k->W.heap[k]?=w.heap[k]?)->MoAt W m v1 v2 v3/\W.heap[Bo]?=some (.cells #[v1,v2,.bool m.has,v3] 26 (0,0))) (hT0:∀ k,T0 k->k<w.heap.size) (hvb:∀ a n c g o,0<m.vars.length->v1=.slice (some ⟨g,o,a⟩) n c->g<w.heap.size) :
    SeqY Fence.wide n Tryz.prog 30 #[.pointer (some ⟨Bo,0,none⟩)] (YsAt (w.heap.size+5)) (fun k=>w.heap.size<=k/\k<w.heap.size+5) (fun k=>T0 k∨(w.heap.size<=k/\k<w.heap.size+5)) (w.heap.size+5) (yI m) w:=by
  intro l J J2 hJ hJ2 hY h0;have h1:1<=n:=by omega
  obtain ⟨W1,hW1⟩:∃ W1,w.alloc (.cells #[.func (.yield l) #[] #[]] 68)=W1:=⟨_,rfl⟩;have hb1:Below w.heap.size w W1:=hW1▸(Below.refl _ _).alloc (Nat.le_refl _) _;have hs1:W1.heap.size=w.heap.size+1:=by rw [<-hW1];exact Array.size_push _
  have hk1:∀ k,T0 k->W1.heap[k]?=w.heap[k]?:=fun k hk=>hb1.block k (hT0 k hk)
  obtain ⟨hmo1,hbo1⟩:=hV W1 (by omega) hk1;have hc1:W1.cell? ⟨Bo,0,none⟩=some v1:=yb hbo1 0;obtain ⟨va,vcp,rfl,_⟩:=hmo1.v.form;have hX:=XE (n-1) (.slice va m.vars.length vcp) W1 ⟨_,_,_,rfl⟩;refine callsIn_of_wp_marks Tryz.func30 rfl trivial ?_ rfl;simp only [Tryz.ntmps30,List.size_toArray,List.length_cons,List.length_nil,Nat.reduceAdd,Nat.reduceSub,Array.replicate_succ,Array.replicate_zero,List.push_toArray,List.append_toArray,List.nil_append,List.cons_append]
  gi_wp2_with (refine ⟨trivial,?_⟩;gi_at_call 31;refine hX.mono ?_;rintro e w' ⟨rfl,rfl⟩)
  obtain ⟨W2,hW2⟩:∃ W2,W1.alloc (.cells #[.slice va m.vars.length vcp] 22)=W2:=⟨_,rfl⟩;rw [hW2];have hb2:Below W1.heap.size W1 W2:=hW2▸(Below.refl _ _).alloc (Nat.le_refl _) _;have hs2:W2.heap.size=w.heap.size+2:=by
    have h:W2.heap.size=W1.heap.size+1:=by rw [<-hW2];exact Array.size_push _
    omega
  have hx2:W2.heap[w.heap.size+1]?=some (.cells #[.slice va m.vars.length vcp] 22 (0,0)):=by rw [<-hs1,<-hW2];exact World.alloc_heap_new W1 _
  have hy2:W2.heap[w.heap.size]?=some (.cells #[.func (.yield l) #[] #[]] 68 (0,0)):=(hb2.block _ (by omega)).trans (hW1▸World.alloc_heap_new w _);have hk2:∀ k,T0 k->W2.heap[k]?=w.heap[k]?:=fun k hk=>(hb2.block k (by have:=hT0 k hk;omega)).trans (hk1 k hk)
  have ho2:Ofw (fun k=>w.heap.size<=k/\k<w.heap.size+5) w W2:=(Ofw.of_below hb1).trans (Ofw.of_below hb2);have HV:Hid (∀ W,w.heap.size<=W.heap.size->(∀ k,T0 k->W.heap[k]?=w.heap[k]?)->MoAt W m (.slice va m.vars.length vcp) v2 v3/\W.heap[Bo]?=some (.cells #[.slice va m.vars.length vcp,v2,.bool m.has,v3] 26 (0,0))):=hV;clear hmo1 hbo1 hX hW1 hW2 hc1
  refine Yg (α:=List Int) rfl h1 (gf:=57) (lb:=#[.pointer (some ⟨w.heap.size+1,0,none⟩)]) rfl trivial (enters_of Tryz.func57 (by kernel_rfl) rfl) (Y:=YvAt (w.heap.size+4) m.vars.length) (U:=fun k=>k=w.heap.size+4) (T:=fun k=>(T0 k∨k=w.heap.size+1)∨k=w.heap.size+4) (M:=w.heap.size+5) (fun k hk=>.inr hk) (xs:=allV m.vars) (fun k hk=>by
      rcases hk with (hk | hk) | hk
      · have:=hT0 k hk;omega
      · omega
      · omega)
    (fun W hb hsz=>by
      have hsz':W.heap.size=w.heap.size+4:=by omega
      have:=XF (n-1) (by omega) (w.heap.size+1) (.slice va m.vars.length vcp) m.vars (fun k=>T0 k∨k=w.heap.size+1) W hlo hvl (fun W' hs hk=>by
        refine ⟨(HV.out W' (by omega) fun k hT=>(hk k (.inl hT)).trans ((hb.block k (by have:=hT0 k hT;omega)).trans (hk2 k hT))).1.v,?_⟩
        exact (hk _ (.inr rfl)).trans ((hb.block _ (by omega)).trans hx2)) (fun k hk=>by
          rcases hk with hk | hk
          · have:=hT0 k hk;omega
          · omega) (fun a n c g o h e=>by have:=hvb a n c g o h e;omega)
      rw [hsz'] at this
      exact this) (fun x vs W h=>by rw [h.1];rfl)
    (fun x vs W k o rec h hl=>⟨h.1,h.2.keep (World.putObj_heap_other (fun e=>by
      have h2:=h.2;unfold VlAt at h2;rw [e] at h2;rw [h2] at hl
      cases hl))⟩)
    (fun pre W=>J (pre.filter (yC m)) W/\W.heap[w.heap.size]?=some (.cells #[.func (.yield l) #[] #[]] 68 (0,0))/\w.heap.size<=W.heap.size/\∀ k,T0 k->W.heap[k]?=w.heap[k]?)
    (fun _ W=>y1H m J2 W)
    (fun pre A B hs ho=>⟨hJ _ _ _ hs.1 (ho.less (fun k hk=>by omega)),(ho.block _ (hLt hs.2.1) (by omega)).trans hs.2.1,Nat.le_trans hs.2.2.1 ho.size,fun k hk=>(ho.block k (by have:=hT0 k hk;have:=hs.2.2.1;omega) (by have:=hT0 k hk;omega)).trans (hs.2.2.2 k hk)⟩)
    (fun _ A B hs ho=>by
      obtain ⟨p,x,q,hs1,hs2⟩:=hs
      exact ⟨p,x,q,hs1,hJ2 _ _ _ hs2 (ho.less (fun k hk=>by omega))⟩)
    ⟨hJ _ _ _ h0 ho2,hy2,by omega,hk2⟩
    (fun _=>{ tmps:=#[.func (.yield l) #[] #[],.pointer (some ⟨Bo,0,none⟩),.pointer (some ⟨w.heap.size,0,none⟩),.slice (some ⟨w.heap.size+4,0,none⟩) m.vars.length m.vars.length,.pointer (some ⟨Bo,0,none⟩),.slice va m.vars.length vcp,.func (.func 57) #[] #[.pointer (some ⟨w.heap.size+1,0,none⟩)],.slice (some ⟨w.heap.size+4,0,none⟩) m.vars.length m.vars.length,undef,undef,undef,undef,undef,undef,undef,undef,undef,undef,undef],defers:=[] }) ?assign ?body ?done ?stop
  case assign=>
    rintro l' x vs W K ⟨rfl,_⟩ hK
    gi_wp2
    exact hK
  case body=>
    rintro l' pre x post vs W hx ⟨hj,hyb,hsz0,hk0⟩ hM hsz ⟨rfl,hvx⟩;have hxl:x.length=m.vars.length:=Zk m.vars x (by rw [hx];simp);have hD:w.heap.size+2<=W.drew.heap.size:=by show w.heap.size+2<=W.heap.size;omega
    have hM':w.heap.size+5<=W.drew.heap.size:=hM;obtain ⟨hmo,hbo⟩:=HV.out W.drew hsz0 hk0;have hvx':VlAt W.drew (w.heap.size+4) x:=hvx;have k8:W.drew.cell? ⟨Bo,1,none⟩=some v2:=yb hbo 1;obtain ⟨ca,ccp,rfl,_⟩:=hmo.c.form;have hmi:MInts W.drew (.slice (some ⟨w.heap.size+4,0,none⟩) m.vars.length m.vars.length) x:=by
      have:=hvx'.ints (by rw [hxl];exact hvl) m.vars.length;rw [hxl] at this;exact this
    have hHd:Calls Tryz.prog 32 #[.slice ca m.cons.length ccp,.slice (some ⟨w.heap.size+4,0,none⟩) m.vars.length m.vars.length] W.drew fun e w'=>e=.returned (.bool (yC m x))/\Below W.drew.heap.size W.drew w':=XG _ m.cons _ x W.drew hmo.c hmi
    have HJ0:Hid (J (pre.filter (yC m)) W.drew):=hJ _ _ _ hj (Ofw.of_below (Below.refl _ _).drew);have HYb:Hid (W.drew.heap[w.heap.size]?=some (.cells #[.func (.yield l) #[] #[]] 68 (0,0))):=hyb;have HVx:Hid (VlAt W.drew (w.heap.size+4) x):=hvx';have HK0:Hid (∀ k:Nat,T0 k->W.drew.heap[k]?=w.heap[k]?):=hk0;have HX2:Hid (W.drew.heap[w.heap.size+1]?=W.heap[w.heap.size+1]?):=rfl;have HWd:Hid (∀ k:Nat,W.drew.heap[k]?=W.heap[k]?):=fun _=>rfl
    have HWs:Hid (W.drew.heap.size=W.heap.size):=rfl;have hm:Tryz.prog.follows .mixedOrders=true:=by kernel_rfl
    have hn1:1<=n-1-1:=by omega
    clear hj hyb hvx hvx' hk0 hmi hmo hbo
    cases hh:yC m x with
    | false =>
      rw [hh] at hHd;have HFl:Hid (pre.filter (yC m)++[x].filter (yC m)=pre.filter (yC m)):=by show _=_;simp [hh]
      clear hh
      gi_wp2
      gi_region_with_o (first | (refine ⟨trivial,?_⟩;gi_at_call 32;refine (zy hHd).mono ?_;rintro e w1 ⟨rfl,hb1⟩) | (refine ⟨trivial,?_⟩) | (refine ⟨fun f h=>(by cases h),?_⟩))
      all_goals
        have HB1:Hid (Below W.drew.heap.size W.drew w1):=hb1;clear hb1 hHd
        gi_wp2
        rw [HFl.out];refine ⟨⟨hJ _ _ _ HJ0.out (Ofw.of_below HB1.out),(HB1.out.block _ (by omega)).trans HYb.out,by have:=HB1.out.size;omega,fun k hk=>(HB1.out.block k (by have:=hT0 k hk;omega)).trans (HK0.out k hk)⟩,by have:=HB1.out.size;have:=HWs.out;omega,fun k hk=>(HB1.out.block k ?_).trans (HWd.out k)⟩;rcases hk with ((hk | hk) | hk) | hk | hk
        · have:=hT0 k hk;omega
        all_goals omega
    | true =>
      rw [hh] at hHd;have HFl:Hid (pre.filter (yC m)++[x].filter (yC m)=pre.filter (yC m)++[x]):=by show _=_;simp [hh]
      have HSq:Hid (yI m=pre.filter (yC m)++x :: post.filter (yC m)):=by
        show _=_;unfold yI;rw [hx];exact XH hh
      have HCl:Hid (∀ w1,Below W.drew.heap.size W.drew w1->Calls Tryz.prog 33 #[.slice (some ⟨w.heap.size+4,0,none⟩) m.vars.length m.vars.length] w1 (Zl x w1)):=fun w1 hb=>by
        have h:=(HVx.out.keep (hb.block _ (by omega))).ints (by rw [hxl];exact hvl) m.vars.length;rw [hxl] at h;exact XI _ x w1 h (by rw [hxl];exact hvl)
      have HYy:Hid (∀ v w2,Below W.drew.heap.size W.drew w2->w2.ownsRow W.drew.heap.size 3 1 v x.length (x.map (.int .i64))->YieldAt Fence.wide (n-1) Tryz.prog l #[v] w2 fun e W'=>((e=.returned (.bool true)/\J (pre.filter (yC m)++[x]) W')∨(e=.returned (.bool false)/\J2 (pre.filter (yC m)++[x]) W'))/\w2.heap.size<=W'.heap.size/\∀ k,(T0 k∨(w.heap.size<=k/\k<w.heap.size+5))->W'.heap[k]?=w2.heap[k]?):=fun v w2 hb ho=>
        hY _ x _ #[v] w2 HSq.out (hJ _ _ _ HJ0.out (Ofw.of_below hb)) (by have:=hb.size;omega) ⟨v,rfl,yM ho hM'⟩
      clear hh hY
      gi_wp2
      gi_region_with_o (first | (refine ⟨trivial,?_⟩;gi_at_call 32;refine (zy hHd).mono ?_;rintro e w1 ⟨rfl,hb1⟩;have y1:w1.cell? ⟨w.heap.size,0,none⟩=some (.func (.yield l) #[] #[]):=yb ((hb1.block _ (by omega)).trans HYb.out) 0;have HCl1:=HCl.out w1 hb1;have HB1:Hid (Below W.drew.heap.size W.drew w1):=hb1;clear hb1) | (refine ⟨trivial,?_⟩;gi_at_call 33;refine (zy HCl1).mono ?_;rintro e w2 ⟨v,rfl,hov,hb2⟩;obtain ⟨fn,tmps,assign,body,hy,hR⟩:=HYy.out v w2 (ym HB1.out hb2) (yM hov HB1.out.size);have y2:w2.cell? ⟨w.heap.size,0,none⟩=some (.func (.yield l) #[] #[]):=yb ((hb2.block _ (by have:=HB1.out.size;omega)).trans ((HB1.out.block _ (by omega)).trans HYb.out)) 0;have HB2:Hid (Below W.drew.heap.size W.drew w2):=ym HB1.out hb2;clear hov hb2) | (refine (XZ hR).mono ?_;rintro e W6 ⟨hd6,hs6,hk6⟩;obtain ⟨bv,rfl,hj6⟩:=Q2 hd6;clear hd6;have HJ6:Hid _:=hj6;clear hj6;have HK6:Hid (w2.heap.size<=W6.heap.size/\∀ k,(T0 k∨(w.heap.size<=k/\k<w.heap.size+5))->W6.heap[k]?=w2.heap[k]?):=⟨hs6,hk6⟩;clear hs6 hk6))
      all_goals
        have HK:Hid (W.heap.size<=W6.heap.size/\∀ k,(T0 k∨(w.heap.size<=k/\k<w.heap.size+5))->W6.heap[k]?=W.heap[k]?):=⟨by have:=HK6.out.1;have:=HB2.out.size;have:=HWs.out;omega,fun k hk=>(HK6.out.2 k hk).trans ((HB2.out.block k (by
          rcases hk with hk | hk
          · have:=hT0 k hk;omega
          · omega)).trans (HWd.out k))⟩
        have HJx:Hid _:=HJ6.out;clear hy hR HK6 HB2 HB1 HCl1 HJ6 y1 y2;rcases HJx.out with ⟨rfl,hj6⟩ | ⟨rfl,hj6⟩
        · have HJ7:Hid (J (pre.filter (yC m)++[x]) W6):=hj6
          clear hj6 HJx
          gi_wp2
          rw [HFl.out];refine ⟨⟨HJ7.out,(HK.out.2 _ (.inr (by omega))).trans ((HWd.out _).symm.trans HYb.out),by have:=HK.out.1;omega,fun k hk=>(HK.out.2 k (.inl hk)).trans ((HWd.out k).symm.trans (HK0.out k hk))⟩,HK.out.1,fun k hk=>HK.out.2 k ?_⟩;rcases hk with ((hk | hk) | hk) | hk | hk
          · exact .inl hk
          all_goals (right;omega)
        · have HJ7:Hid (J2 (pre.filter (yC m)++[x]) W6):=hj6
          clear hj6 HJx
          gi_wp2
          refine ⟨⟨_,_,_,HSq.out,HJ7.out⟩,HK.out.1,fun k hk=>HK.out.2 k ?_⟩;rcases hk with ((hk | hk) | hk) | hk | hk
          · exact .inl hk
          all_goals (right;omega)
  case done=>
    rintro W ⟨hj,_⟩ hK
    gi_wp2
    refine ⟨by simp,.inl ⟨_,_,rfl,run_takeDeferred hK,?_⟩⟩;exact ⟨_,results_none rfl _ _ _,⟨_,rfl⟩,.inl (hJ _ _ _ hj (yW W _ _ (by omega)))⟩
  case stop=>
    rintro pre x post W hx ⟨p,y,q,hs,hj⟩ hK
    gi_wp2
    refine ⟨by simp,.inl ⟨_,_,rfl,run_takeDeferred hK,?_⟩⟩;exact ⟨_,results_none rfl _ _ _,⟨_,rfl⟩,.inr ⟨p,y,q,hs,hJ2 _ _ _ hj (yW W _ _ (by omega))⟩⟩
end Go.Proofs.YtjgghimjnbjlbaaGreatDoor

namespace Go.Proofs.YtjgghimjnbjlbaaGreatDoor
open Go Go.RowKit
set_option maxRecDepth 10000
set_option maxHeartbeats 8000000
attribute [local go_sem] Oper.semAt_some
theorem XL:∀ (l:List Md.Vr) (n p:Int),(∀ v∈l,v.lo<=v.hi)->0<n->n<=100000->Md.prod l 100000 n=some p->p=n * ((allV l).length:Int)/\p<=100000
  | [], n, p, _, _, hn, h => by
    have:n=p:=Option.some.inj h;subst this;exact ⟨by simp [allV],hn⟩
  | v :: l, n, p, hv, h0, hn, h => by
    have h1:=hv v (by simp);have hs:0<v.hi-v.lo+1:=by omega
    have h':(if (100000:Int).tdiv (v.hi-v.lo+1)<n then none else Md.prod l 100000 (n * (v.hi-v.lo+1)))=some p:=h
    split at h'
    · cases h'
    rename_i hq
    rw [Int.tdiv_eq_ediv_of_nonneg (by decide)] at hq;have hle:n * (v.hi-v.lo+1)<=100000:=by
      have h2:n<=100000 / (v.hi-v.lo+1):=by omega
      have h3:=Int.mul_le_mul_of_nonneg_right h2 (Int.le_of_lt hs);have h4:=Int.ediv_mul_le 100000 (show v.hi-v.lo+1≠0 by omega);omega
    obtain ⟨e1,e2⟩:=XL l _ p (fun u hu=>hv u (List.mem_cons_of_mem _ hu)) (Int.mul_pos h0 hs) hle h';refine ⟨?_,e2⟩;rw [e1,Int.mul_assoc]
    congr 1
    show _=((blkL (allV l) v.lo (v.hi-v.lo+1).toNat).length:Int);rw [Zp,Int.natCast_mul,Int.toNat_of_nonneg (by omega)]
theorem Yt {m:Md.Mo} (h:(Md.check m).2=0):∀ v∈m.vars,v.lo<=v.hi/\-1000000000<=v.lo/\v.hi<=1000000000:=fun v hv=>by
  have:=((Md.right_of h).var v hv).2;simp only [Md.boundsB,Md.numB,Bool.and_eq_true,decide_eq_true_eq] at this;omega
theorem xO {m:Md.Mo} {k:Int} (h:(Md.product m k).2=true):(Md.check m).2=0:=by
  unfold Md.product at h
  split at h
  · assumption
  · cases h
theorem Xo {m:Md.Mo} (h:(Md.product m 100000).2=true):((allV m.vars).length:Int)=(Md.product m 100000).1/\(Md.product m 100000).1<=100000:=by
  have hr:=xO h;unfold Md.product at h ⊢;rw [if_pos hr] at h ⊢
  cases hp:Md.prod m.vars 100000 1 with
  | none=>rw [hp] at h;cases h
  | some p =>
    obtain ⟨e1,e2⟩:=XL m.vars 1 p (fun v hv=>(Yt hr v hv).1) (by decide) (by decide) hp;exact ⟨by show _=p;omega,e2⟩
theorem Xj {m:Md.Mo} (h:(Md.check m).2=0):(m.vars.length<=1000000/\m.cons.length<=1000000/\m.goal.length<=1000000)/\∀ c∈m.cons,c.terms.length<=1000000/\c.xs.length<=1000000/\c.table.length<=1000000/\c.rows.length<=1000000/\∀ r∈c.rows,r.length<=1000000:=by
  have hR:=Md.right_of h;have hg:m.goal.length<=64:=by
    have hg:=hR.goal;unfold Md.goalFault at hg
    split at hg
    · split at hg
      · cases hg
      · omega
    · split at hg
      · cases hg
      · rename_i hf
        have hf:¬ (m.goal.length<1∨64<m.goal.length):=by simpa [Md.fewB] using hf
        omega
  have hnv:=hR.nv;have hnc:=hR.nc;refine ⟨⟨by omega,by omega,by omega⟩,fun c hc=>?_⟩;have hf:=Md.fit_of (hR.con c hc);have h1:=hf.tl;have h2:=hf.xl;have h3:=hf.bl;have h4:=hf.rl;exact ⟨by omega,by omega,by omega,by omega,fun r hr=>by have:=hf.rr r hr;omega⟩
theorem Ys (m:Md.Mo) (vv vc vg:Value) (w:World) (h:MoAt w m vv vc vg):Calls Tryz.prog 28 #[yp m vv vc vg] w fun e w'=>e=.returned (.bool (Md.product m 100000).2)/\Below w.heap.size w w':=by
  obtain ⟨va,vp,rfl,hvm⟩:=h.v.form;obtain ⟨ca,cp,rfl,hcm⟩:=h.c.form;obtain ⟨ga,gp,rfl,hgm⟩:=h.g.form;obtain ⟨W,hW⟩:∃ W,w.alloc (.cells #[.slice va m.vars.length vp,.slice ca m.cons.length cp,.bool m.has,.slice ga m.goal.length gp] 26)=W:=⟨_,rfl⟩;have gW:W.heap[w.heap.size]?=some (.cells #[.slice va m.vars.length vp,.slice ca m.cons.length cp,.bool m.has,.slice ga m.goal.length gp] 26 (0,0)):=hAe hW;have bW:Below w.heap.size w W:=bAe hW;have HB:Hid (Below w.heap.size w W):=bW;have HP:Hid (Calls Tryz.prog 20 #[yp m (.slice va m.vars.length vp) (.slice ca m.cons.length cp) (.slice ga m.goal.length gp),.int .i64 100000] W fun e w'=>e=.returned (.tuple #[.int .i64 (Md.product m 100000).1,.bool (Md.product m 100000).2])/\Below W.heap.size W w'):=y1m m _ _ _ 100000 W (h.below bW) (by decide) (by decide)
  have p0:=yb gW 0;have p1:=yb gW 1;have p2:=yb gW 2;have p3:=yb gW 3;dsimp at p0 p1 p2 p3;unfold yp at HP ⊢;clear h gW bW;go_enter Tryz.func28,Tryz.ntmps28;go_wp2_with fail
  refine cA HP.out ?_;rintro e w1 ⟨rfl,hb1⟩;have HB1:Hid (Below w.heap.size w w1):=ym HB.out hb1;clear hb1 hW HP p0 p1 p2 p3;go_wp2_with fail
  go_ret;exact ⟨rfl,HB1.out⟩
def yt (m:Md.Mo):List (List Int):=if (Md.product m 100000).2=true then yI m else []
def y1n (w:World) (m:Md.Mo) (e:Ending) (w':World):Prop:=∃ gf lb,e=.returned (.func (.func gf) #[] lb)/\(∀ args w,(callFunc gf args).run Tryz.prog w=.ok (.enter gf args) w)/\Below w.heap.size w w' /\
  ∀ n W,3<=n->w'.heap.size<=W.heap.size->(∀ k,w.heap.size<=k->k<w'.heap.size->W.heap[k]?=w'.heap[k]?)->SeqY Fence.wide n Tryz.prog gf lb (YsAt (W.heap.size+5)) (fun k=>W.heap.size<=k/\k<W.heap.size+5) (fun k=>(w.heap.size<=k/\k<w'.heap.size)∨(W.heap.size<=k/\k<W.heap.size+5)) (W.heap.size+5) (yt m) W
theorem y1o (n:Nat) (Y:List Int->Array Value->World->Prop) (U T:Nat->Prop) (M:Nat) (W:World):SeqY Fence.wide n Tryz.prog 29 #[] Y U T M [] W:=by
  intro l J J2 hJ hJ2 hY h0;refine callsIn_of_wp Tryz.func29 rfl trivial ?_ rfl;simp only [Tryz.ntmps29,List.size_toArray,List.length_cons,List.length_nil,Nat.reduceAdd,Nat.reduceSub,Array.replicate_succ,Array.replicate_zero,List.push_toArray,List.append_toArray,List.nil_append,List.cons_append]
  gi_wp2
  go_end0;exact ⟨⟨_,rfl⟩,.inl h0⟩
theorem Xl {w w' W:World} {m:Md.Mo} {v1 v2 v3:Value} {xs:List Value} (h1:COwn w.heap.size m.cons.length w.heap.size (w.heap.size+1) w' v2 m.cons xs) (h2:Kept (fun b=>b<w.heap.size∨ob v2 b∨b=w.heap.size+1) w' (fun w2=>VarsAt w2 v1 m.vars)) (h3:∀ a n cp,v1=.slice a n cp->n<=cp) (h4:Kept (fun b=>b<w.heap.size∨ob v2 b∨b=w.heap.size+1) w' (fun w2=>TermsAt w2 v3 m.goal)) (hl:m.cons.length<=1000000)
    (hs:w'.heap.size<=W.heap.size) (hk:∀ k,w.heap.size<=k->k<w'.heap.size->W.heap[k]?=w'.heap[k]?):MoAt W m v1 v2 v3:=by
  have ho:MOff (fun b=>b<w.heap.size) w' W:=⟨hs,fun k hk1 hk2=>hk k (by omega) hk1⟩
  have hc:COwn w.heap.size m.cons.length w.heap.size (w.heap.size+1) W v2 m.cons xs:=⟨yG h1.own (fun g hg hlt=>by have:=(h1.own.lt g hg).1;omega) ho,fun j hj=>by
    obtain ⟨vt,vx,vb,vr,e1,e2⟩:=h1.each j hj
    exact ⟨vt,vx,vb,vr,e1,e2.next (ho.less fun b hb=>.inl ⟨hj,hb⟩)⟩⟩
  exact ⟨h2 W (ho.less fun b hb=>.inl hb),h3,hc.cons (by unfold maxLen;omega),h4 W (ho.less fun b hb=>.inl hb)⟩
theorem Zo (m:Md.Mo) (vv vc vg:Value) (w:World) (h:MoAt w m vv vc vg):Calls Tryz.prog 10 #[yp m vv vc vg] w (y1n w m):=by
  obtain ⟨va,vp,rfl,hvm⟩:=h.v.form;obtain ⟨ca,cp,rfl,hcm⟩:=h.c.form;obtain ⟨ga,gp,rfl,hgm⟩:=h.g.form;obtain ⟨W,hW⟩:∃ W,w.alloc (.cells #[.slice va m.vars.length vp,.slice ca m.cons.length cp,.bool m.has,.slice ga m.goal.length gp] 26)=W:=⟨_,rfl⟩;have gW:W.heap[w.heap.size]?=some (.cells #[.slice va m.vars.length vp,.slice ca m.cons.length cp,.bool m.has,.slice ga m.goal.length gp] 26 (0,0)):=hAe hW;have bW:Below w.heap.size w W:=bAe hW;have HB:Hid (Below w.heap.size w W):=bW;have HM:Hid (∀ w',Below W.heap.size W w'->MoAt w' m (.slice va m.vars.length vp) (.slice ca m.cons.length cp) (.slice ga m.goal.length gp)):=fun w' hb=>(h.below bW).below hb
  have HG:Hid (∀ w',Below W.heap.size W w'->w'.heap[w.heap.size]?=some (.cells #[.slice va m.vars.length vp,.slice ca m.cons.length cp,.bool m.has,.slice ga m.goal.length gp] 26 (0,0))):=fun w' hb=>(hb.block _ (hLt gW)).trans gW
  have HC:Hid (Calls Tryz.prog 28 #[yp m (.slice va m.vars.length vp) (.slice ca m.cons.length cp) (.slice ga m.goal.length gp)] W fun e w'=>e=.returned (.bool (Md.product m 100000).2)/\Below W.heap.size W w'):=Ys m _ _ _ W (HM.out W (Below.refl _ _));have p0:=yb gW 0;have p1:=yb gW 1;have p2:=yb gW 2;have p3:=yb gW 3;dsimp at p0 p1 p2 p3;unfold yp at HC ⊢;clear h gW bW;go_enter Tryz.func10,Tryz.ntmps10;go_wp2_with fail
  refine cA HC.out ?_;rintro e w1 ⟨rfl,hb1⟩;have HB1:Hid (Below W.heap.size W w1):=hb1;clear hb1 hW HC p0 p1 p2 p3
  cases hp:(Md.product m 100000).2 with
  | false =>
    have HP:Hid ((Md.product m 100000).2=false):=hp;clear hp;go_wp2_with fail
    go_ret;refine ⟨29,#[],rfl,enters_of Tryz.func29 (by kernel_rfl) rfl,ym HB.out HB1.out,fun n W hn _ _=>?_⟩;unfold yt;rw [if_neg (by rw [HP.out];decide)];exact y1o n _ _ _ _ W
  | true =>
    have HP:Hid ((Md.product m 100000).2=true):=hp;have hsm:=Xj (xO hp);have g1:=HG.out w1 HB1.out;have p0:=yb g1 0;have p1:=yb g1 1;have p2:=yb g1 2;have p3:=yb g1 3;dsimp at p0 p1 p2 p3;have HCp:Hid (Calls Tryz.prog 19 #[yp m (.slice va m.vars.length vp) (.slice ca m.cons.length cp) (.slice ga m.goal.length gp)] w1 (Y3 w1 m)):=Xk m _ _ _ w1 (HM.out w1 HB1.out) ⟨Nat.le_trans hsm.1.1 (by decide),Nat.le_trans hsm.1.2.1 (by decide),Nat.le_trans hsm.1.2.2 (by decide)⟩ (fun c hc=>⟨Nat.le_trans (hsm.2 c hc).1 (by decide),Nat.le_trans (hsm.2 c hc).2.1 (by decide),Nat.le_trans (hsm.2 c hc).2.2.1 (by decide),Nat.le_trans (hsm.2 c hc).2.2.2.1 (by decide),fun r hr=>Nat.le_trans ((hsm.2 c hc).2.2.2.2 r hr) (by decide)⟩);have HSm:Hid (m.cons.length<=1000000/\m.vars.length<=1000000):=⟨hsm.1.2.1,hsm.1.1⟩
    unfold yp at HCp;clear hp hsm g1;go_wp2_with fail
    refine cA HCp.out ?_;rintro e w2 ⟨v1,v2,v3,xs,rfl,hb2,hco,hk1,hcap,hk2⟩;obtain ⟨va2,vp2,rfl,_⟩:=hk1.now.form;obtain ⟨ga2,gp2,rfl,_⟩:=hk2.now.form;obtain ⟨ca2,cp2,rfl⟩:=yv hco.own;obtain ⟨X,hX⟩:∃ X,w2.alloc (.cells #[.slice va2 m.vars.length vp2,.slice ca2 m.cons.length cp2,.bool m.has,.slice ga2 m.goal.length gp2] 26)=X:=⟨_,rfl⟩;have gX:X.heap[w2.heap.size]?=some (.cells #[.slice va2 m.vars.length vp2,.slice ca2 m.cons.length cp2,.bool m.has,.slice ga2 m.goal.length gp2] 26 (0,0)):=hAe hX;have bX:Below w2.heap.size w2 X:=bAe hX;have sX:X.heap.size=w2.heap.size+1:=by rw [<-hX];exact Array.size_push _
    have HX:Hid (Below w.heap.size w X/\Below w1.heap.size w1 X):=⟨ym (ym (ym HB.out HB1.out) hb2) bX,ym hb2 bX⟩;have HS1:Hid (w.heap.size<=w1.heap.size):=(ym HB.out HB1.out).size;have HV:Hid (∀ W,X.heap.size<=W.heap.size->(∀ k,w.heap.size<=k->k<X.heap.size->W.heap[k]?=X.heap[k]?)->MoAt W m (.slice va2 m.vars.length vp2) (.slice ca2 m.cons.length cp2) (.slice ga2 m.goal.length gp2)/\W.heap[w2.heap.size]?=some (.cells #[.slice va2 m.vars.length vp2,.slice ca2 m.cons.length cp2,.bool m.has,.slice ga2 m.goal.length gp2] 26 (0,0))):=fun W hs hk=>by
      have hsz:=hb2.size;have hw1:=HS1.out;refine ⟨Xl hco hk1 hcap hk2 HSm.out.1 (by omega) fun k h1 h2=>?_,(hk _ (by omega) (by omega)).trans gX⟩;exact (hk k (by omega) (by omega)).trans (bX.block k h2)
    have HVb:Hid (∀ a n c g o,0<m.vars.length->Value.slice va2 m.vars.length vp2=.slice (some ⟨g,o,a⟩) n c->g<X.heap.size):=fun a n c g o h0 he=>by
      obtain ⟨a3,c3,e1,_,_,e2⟩:=hk1.now;obtain ⟨b,off,e3,e4,_⟩:=e2 h0;injection e1 with e5;injection he with e6;rw [e5,e3] at e6;injection e6 with e7;injection e7 with e8;omega
    clear hb2 hco hk1 hcap hk2 gX bX sX p0 p1 p2 p3 HCp;go_wp2_with fail
    go_ret;refine ⟨30,#[.pointer (some ⟨w2.heap.size,0,none⟩)],rfl,enters_of Tryz.func30 (by kernel_rfl) rfl,HX.out.1,fun n W hn hs hk=>?_⟩;unfold yt;rw [if_pos HP.out];exact y1p n hn w2.heap.size m _ _ _ (fun k=>w.heap.size<=k/\k<X.heap.size) W (fun v hv=>by have:=Yt (xO HP.out) v hv;omega) HSm.out.2
      (fun W' hs' hk'=>HV.out W' (by omega) fun k h1 h2=>(hk' k ⟨h1,h2⟩).trans (hk k h1 h2)) (fun k hk=>by omega) (fun a n c g o h0 he=>by have:=HVb.out a n c g o h0 he;omega)
end Go.Proofs.YtjgghimjnbjlbaaGreatDoor

namespace Go.Proofs.YtjgghimjnbjlbaaGreatDoor
open Go Go.RowKit Go.Shelf Go.Lib
set_option maxRecDepth 10000
set_option maxHeartbeats 8000000
attribute [local go_sem] Oper.semAt_some
def SeqF (pw pn pl:Nat) (n:Nat) (g:Nat) (lb:Array Value) (U T:Nat->Prop) (M:Nat) (xs:List (List Int)) (w:World):Prop:=
  ∀ (J:List (List Int)->World->Prop),(∀ s W W',J s W->Ofw U W W'->J s W') ->
    (∀ pre x post v W,xs=pre++x :: post->J pre W->M<=W.heap.size->W.ownsRow M 3 1 v x.length (x.map (.int .i64))->Calls Tryz.prog 27 #[v,.pointer (some ⟨pw,0,none⟩),.pointer (some ⟨pn,0,none⟩),.pointer (some ⟨pl,0,none⟩)] W fun e W'=>e=.returned (.bool true)/\J (pre++[x]) W'/\W.heap.size<=W'.heap.size/\∀ k,T k->W'.heap[k]?=W.heap[k]?) ->
    J [] w->CallsIn Fence.wide n Tryz.prog g (#[.func (.func 27) #[] #[.pointer (some ⟨pw,0,none⟩),.pointer (some ⟨pn,0,none⟩),.pointer (some ⟨pl,0,none⟩)]]++lb) w fun e W'=>(∃ v,e=.returned v)/\J xs W'
theorem y0S (pw pn pl:Nat) (n:Nat) (hn:3<=n) (Bo:Nat) (m:Md.Mo) (v1 v2 v3:Value) (T0:Nat->Prop) (w:World) (hlo:∀ v∈m.vars,v.lo<=v.hi/\-1000000000000000000<=v.lo/\v.hi<=1000000000000000000) (hvl:m.vars.length<=1000000)
    (hV:∀ W,w.heap.size<=W.heap.size->(∀ k,T0 k->W.heap[k]?=w.heap[k]?)->MoAt W m v1 v2 v3/\W.heap[Bo]?=some (.cells #[v1,v2,.bool m.has,v3] 26 (0,0))) (hT0:∀ k,T0 k->k<w.heap.size) (hvb:∀ a n c g o,0<m.vars.length->v1=.slice (some ⟨g,o,a⟩) n c->g<w.heap.size) :
    SeqF pw pn pl n 30 #[.pointer (some ⟨Bo,0,none⟩)] (fun k=>w.heap.size<=k/\k<w.heap.size+5) (fun k=>T0 k∨(w.heap.size<=k/\k<w.heap.size+5)) (w.heap.size+5) (yI m) w:=by
  intro J hJ hY h0;have h1:1<=n:=by omega
  obtain ⟨W1,hW1⟩:∃ W1,w.alloc (.cells #[.func (.func 27) #[] #[.pointer (some ⟨pw,0,none⟩),.pointer (some ⟨pn,0,none⟩),.pointer (some ⟨pl,0,none⟩)]] 68)=W1:=⟨_,rfl⟩;have hb1:Below w.heap.size w W1:=hW1▸(Below.refl _ _).alloc (Nat.le_refl _) _;have hs1:W1.heap.size=w.heap.size+1:=by rw [<-hW1];exact Array.size_push _
  have hk1:∀ k,T0 k->W1.heap[k]?=w.heap[k]?:=fun k hk=>hb1.block k (hT0 k hk)
  obtain ⟨hmo1,hbo1⟩:=hV W1 (by omega) hk1;have hc1:W1.cell? ⟨Bo,0,none⟩=some v1:=yb hbo1 0;obtain ⟨va,vcp,rfl,_⟩:=hmo1.v.form;have hX:=XE (n-1) (.slice va m.vars.length vcp) W1 ⟨_,_,_,rfl⟩;refine callsIn_of_wp_marks Tryz.func30 rfl trivial ?_ rfl;simp only [Tryz.ntmps30,List.size_toArray,List.length_cons,List.length_nil,Nat.reduceAdd,Nat.reduceSub,Array.replicate_succ,Array.replicate_zero,List.push_toArray,List.append_toArray,List.nil_append,List.cons_append]
  gi_wp2_with (refine ⟨trivial,?_⟩;gi_at_call 31;refine hX.mono ?_;rintro e w' ⟨rfl,rfl⟩)
  obtain ⟨W2,hW2⟩:∃ W2,W1.alloc (.cells #[.slice va m.vars.length vcp] 22)=W2:=⟨_,rfl⟩;rw [hW2];have hb2:Below W1.heap.size W1 W2:=hW2▸(Below.refl _ _).alloc (Nat.le_refl _) _;have hs2:W2.heap.size=w.heap.size+2:=by
    have h:W2.heap.size=W1.heap.size+1:=by rw [<-hW2];exact Array.size_push _
    omega
  have hx2:W2.heap[w.heap.size+1]?=some (.cells #[.slice va m.vars.length vcp] 22 (0,0)):=by rw [<-hs1,<-hW2];exact World.alloc_heap_new W1 _
  have hy2:W2.heap[w.heap.size]?=some (.cells #[.func (.func 27) #[] #[.pointer (some ⟨pw,0,none⟩),.pointer (some ⟨pn,0,none⟩),.pointer (some ⟨pl,0,none⟩)]] 68 (0,0)):=(hb2.block _ (by omega)).trans (hW1▸World.alloc_heap_new w _);have hk2:∀ k,T0 k->W2.heap[k]?=w.heap[k]?:=fun k hk=>(hb2.block k (by have:=hT0 k hk;omega)).trans (hk1 k hk)
  have ho2:Ofw (fun k=>w.heap.size<=k/\k<w.heap.size+5) w W2:=(Ofw.of_below hb1).trans (Ofw.of_below hb2);have HV:Hid (∀ W,w.heap.size<=W.heap.size->(∀ k,T0 k->W.heap[k]?=w.heap[k]?)->MoAt W m (.slice va m.vars.length vcp) v2 v3/\W.heap[Bo]?=some (.cells #[.slice va m.vars.length vcp,v2,.bool m.has,v3] 26 (0,0))):=hV;clear hmo1 hbo1 hX hW1 hW2 hc1
  refine Yg (α:=List Int) rfl h1 (gf:=57) (lb:=#[.pointer (some ⟨w.heap.size+1,0,none⟩)]) rfl trivial (enters_of Tryz.func57 (by kernel_rfl) rfl) (Y:=YvAt (w.heap.size+4) m.vars.length) (U:=fun k=>k=w.heap.size+4) (T:=fun k=>(T0 k∨k=w.heap.size+1)∨k=w.heap.size+4) (M:=w.heap.size+5) (fun k hk=>.inr hk) (xs:=allV m.vars) (fun k hk=>by
      rcases hk with (hk | hk) | hk
      · have:=hT0 k hk;omega
      · omega
      · omega)
    (fun W hb hsz=>by
      have hsz':W.heap.size=w.heap.size+4:=by omega
      have:=XF (n-1) (by omega) (w.heap.size+1) (.slice va m.vars.length vcp) m.vars (fun k=>T0 k∨k=w.heap.size+1) W hlo hvl (fun W' hs hk=>by
        refine ⟨(HV.out W' (by omega) fun k hT=>(hk k (.inl hT)).trans ((hb.block k (by have:=hT0 k hT;omega)).trans (hk2 k hT))).1.v,?_⟩
        exact (hk _ (.inr rfl)).trans ((hb.block _ (by omega)).trans hx2)) (fun k hk=>by
          rcases hk with hk | hk
          · have:=hT0 k hk;omega
          · omega) (fun a n c g o h e=>by have:=hvb a n c g o h e;omega)
      rw [hsz'] at this
      exact this) (fun x vs W h=>by rw [h.1];rfl)
    (fun x vs W k o rec h hl=>⟨h.1,h.2.keep (World.putObj_heap_other (fun e=>by
      have h2:=h.2;unfold VlAt at h2;rw [e] at h2;rw [h2] at hl
      cases hl))⟩)
    (fun pre W=>J (pre.filter (yC m)) W/\W.heap[w.heap.size]?=some (.cells #[.func (.func 27) #[] #[.pointer (some ⟨pw,0,none⟩),.pointer (some ⟨pn,0,none⟩),.pointer (some ⟨pl,0,none⟩)]] 68 (0,0))/\w.heap.size<=W.heap.size/\∀ k,T0 k->W.heap[k]?=w.heap[k]?)
    (fun _ _=>False)
    (fun pre A B hs ho=>⟨hJ _ _ _ hs.1 (ho.less (fun k hk=>by omega)),(ho.block _ (hLt hs.2.1) (by omega)).trans hs.2.1,Nat.le_trans hs.2.2.1 ho.size,fun k hk=>(ho.block k (by have:=hT0 k hk;have:=hs.2.2.1;omega) (by have:=hT0 k hk;omega)).trans (hs.2.2.2 k hk)⟩)
    (fun _ _ _ h _=>h)
    ⟨hJ _ _ _ h0 ho2,hy2,by omega,hk2⟩
    (fun _=>{ tmps:=#[.func (.func 27) #[] #[.pointer (some ⟨pw,0,none⟩),.pointer (some ⟨pn,0,none⟩),.pointer (some ⟨pl,0,none⟩)],.pointer (some ⟨Bo,0,none⟩),.pointer (some ⟨w.heap.size,0,none⟩),.slice (some ⟨w.heap.size+4,0,none⟩) m.vars.length m.vars.length,.pointer (some ⟨Bo,0,none⟩),.slice va m.vars.length vcp,.func (.func 57) #[] #[.pointer (some ⟨w.heap.size+1,0,none⟩)],.slice (some ⟨w.heap.size+4,0,none⟩) m.vars.length m.vars.length,undef,undef,undef,undef,undef,undef,undef,undef,undef,undef,undef],defers:=[] }) ?assign ?body ?done ?stop
  case assign=>
    rintro l' x vs W K ⟨rfl,_⟩ hK
    gi_wp2
    exact hK
  case body=>
    rintro l' pre x post vs W hx ⟨hj,hyb,hsz0,hk0⟩ hM hsz ⟨rfl,hvx⟩;have hxl:x.length=m.vars.length:=Zk m.vars x (by rw [hx];simp);have hD:w.heap.size+2<=W.drew.heap.size:=by show w.heap.size+2<=W.heap.size;omega
    have hM':w.heap.size+5<=W.drew.heap.size:=hM;obtain ⟨hmo,hbo⟩:=HV.out W.drew hsz0 hk0;have hvx':VlAt W.drew (w.heap.size+4) x:=hvx;have k8:W.drew.cell? ⟨Bo,1,none⟩=some v2:=yb hbo 1;obtain ⟨ca,ccp,rfl,_⟩:=hmo.c.form;have hmi:MInts W.drew (.slice (some ⟨w.heap.size+4,0,none⟩) m.vars.length m.vars.length) x:=by
      have:=hvx'.ints (by rw [hxl];exact hvl) m.vars.length;rw [hxl] at this;exact this
    have hHd:Calls Tryz.prog 32 #[.slice ca m.cons.length ccp,.slice (some ⟨w.heap.size+4,0,none⟩) m.vars.length m.vars.length] W.drew fun e w'=>e=.returned (.bool (yC m x))/\Below W.drew.heap.size W.drew w':=XG _ m.cons _ x W.drew hmo.c hmi
    have HJ0:Hid (J (pre.filter (yC m)) W.drew):=hJ _ _ _ hj (Ofw.of_below (Below.refl _ _).drew);have HYb:Hid (W.drew.heap[w.heap.size]?=some (.cells #[.func (.func 27) #[] #[.pointer (some ⟨pw,0,none⟩),.pointer (some ⟨pn,0,none⟩),.pointer (some ⟨pl,0,none⟩)]] 68 (0,0))):=hyb;have HVx:Hid (VlAt W.drew (w.heap.size+4) x):=hvx';have HK0:Hid (∀ k:Nat,T0 k->W.drew.heap[k]?=w.heap[k]?):=hk0;have HX2:Hid (W.drew.heap[w.heap.size+1]?=W.heap[w.heap.size+1]?):=rfl;have HWd:Hid (∀ k:Nat,W.drew.heap[k]?=W.heap[k]?):=fun _=>rfl
    have HWs:Hid (W.drew.heap.size=W.heap.size):=rfl;have hm:Tryz.prog.follows .mixedOrders=true:=by kernel_rfl
    have hn1:1<=n-1-1:=by omega
    clear hj hyb hvx hvx' hk0 hmi hmo hbo
    cases hh:yC m x with
    | false =>
      rw [hh] at hHd;have HFl:Hid (pre.filter (yC m)++[x].filter (yC m)=pre.filter (yC m)):=by show _=_;simp [hh]
      clear hh
      gi_wp2
      gi_region_with_o (first | (refine ⟨trivial,?_⟩;gi_at_call 32;refine (zy hHd).mono ?_;rintro e w1 ⟨rfl,hb1⟩) | (refine ⟨trivial,?_⟩) | (refine ⟨fun f h=>(by cases h),?_⟩))
      all_goals
        have HB1:Hid (Below W.drew.heap.size W.drew w1):=hb1;clear hb1 hHd
        gi_wp2
        rw [HFl.out];refine ⟨⟨hJ _ _ _ HJ0.out (Ofw.of_below HB1.out),(HB1.out.block _ (by omega)).trans HYb.out,by have:=HB1.out.size;omega,fun k hk=>(HB1.out.block k (by have:=hT0 k hk;omega)).trans (HK0.out k hk)⟩,by have:=HB1.out.size;have:=HWs.out;omega,fun k hk=>(HB1.out.block k ?_).trans (HWd.out k)⟩;rcases hk with ((hk | hk) | hk) | hk | hk
        · have:=hT0 k hk;omega
        all_goals omega
    | true =>
      rw [hh] at hHd;have HFl:Hid (pre.filter (yC m)++[x].filter (yC m)=pre.filter (yC m)++[x]):=by show _=_;simp [hh]
      have HSq:Hid (yI m=pre.filter (yC m)++x :: post.filter (yC m)):=by
        show _=_;unfold yI;rw [hx];exact XH hh
      have HCl:Hid (∀ w1,Below W.drew.heap.size W.drew w1->Calls Tryz.prog 33 #[.slice (some ⟨w.heap.size+4,0,none⟩) m.vars.length m.vars.length] w1 (Zl x w1)):=fun w1 hb=>by
        have h:=(HVx.out.keep (hb.block _ (by omega))).ints (by rw [hxl];exact hvl) m.vars.length;rw [hxl] at h;exact XI _ x w1 h (by rw [hxl];exact hvl)
      have HYy:Hid (∀ v w2,Below W.drew.heap.size W.drew w2->w2.ownsRow W.drew.heap.size 3 1 v x.length (x.map (.int .i64))->Calls Tryz.prog 27 #[v,.pointer (some ⟨pw,0,none⟩),.pointer (some ⟨pn,0,none⟩),.pointer (some ⟨pl,0,none⟩)] w2 fun e W'=>e=.returned (.bool true)/\J (pre.filter (yC m)++[x]) W'/\w2.heap.size<=W'.heap.size/\∀ k,(T0 k∨(w.heap.size<=k/\k<w.heap.size+5))->W'.heap[k]?=w2.heap[k]?):=fun v w2 hb ho=>
        hY _ x _ v w2 HSq.out (hJ _ _ _ HJ0.out (Ofw.of_below hb)) (by have:=hb.size;omega) (yM ho hM')
      clear hh hY
      gi_wp2
      gi_region_with_o (first | (refine ⟨trivial,?_⟩;gi_at_call 32;refine (zy hHd).mono ?_;rintro e w1 ⟨rfl,hb1⟩;have y1:w1.cell? ⟨w.heap.size,0,none⟩=some (.func (.func 27) #[] #[.pointer (some ⟨pw,0,none⟩),.pointer (some ⟨pn,0,none⟩),.pointer (some ⟨pl,0,none⟩)]):=yb ((hb1.block _ (by omega)).trans HYb.out) 0;have HCl1:=HCl.out w1 hb1;have HB1:Hid (Below W.drew.heap.size W.drew w1):=hb1;clear hb1) | (refine ⟨trivial,?_⟩;gi_at_call 33;refine (zy HCl1).mono ?_;rintro e w2 ⟨v,rfl,hov,hb2⟩;have hR:=HYy.out v w2 (ym HB1.out hb2) (yM hov HB1.out.size);have y2:w2.cell? ⟨w.heap.size,0,none⟩=some (.func (.func 27) #[] #[.pointer (some ⟨pw,0,none⟩),.pointer (some ⟨pn,0,none⟩),.pointer (some ⟨pl,0,none⟩)]):=yb ((hb2.block _ (by have:=HB1.out.size;omega)).trans ((HB1.out.block _ (by omega)).trans HYb.out)) 0;have HB2:Hid (Below W.drew.heap.size W.drew w2):=ym HB1.out hb2;clear hov hb2) | (refine ⟨trivial,?_⟩;gi_at_call 27;refine (zy hR).mono ?_;rintro e W6 ⟨rfl,hj6,hs6,hk6⟩;have HJ6:Hid (J (pre.filter (yC m)++[x]) W6):=hj6;clear hj6;have HK6:Hid (w2.heap.size<=W6.heap.size/\∀ k,(T0 k∨(w.heap.size<=k/\k<w.heap.size+5))->W6.heap[k]?=w2.heap[k]?):=⟨hs6,hk6⟩;clear hs6 hk6))
      all_goals
        have HK:Hid (W.heap.size<=W6.heap.size/\∀ k,(T0 k∨(w.heap.size<=k/\k<w.heap.size+5))->W6.heap[k]?=W.heap[k]?):=⟨by have:=HK6.out.1;have:=HB2.out.size;have:=HWs.out;omega,fun k hk=>(HK6.out.2 k hk).trans ((HB2.out.block k (by
          rcases hk with hk | hk
          · have:=hT0 k hk;omega
          · omega)).trans (HWd.out k))⟩
        clear hR HK6 HB2 HB1 HCl1 y1 y2
        gi_wp2
        rw [HFl.out];refine ⟨⟨HJ6.out,(HK.out.2 _ (.inr (by omega))).trans ((HWd.out _).symm.trans HYb.out),by have:=HK.out.1;omega,fun k hk=>(HK.out.2 k (.inl hk)).trans ((HWd.out k).symm.trans (HK0.out k hk))⟩,HK.out.1,fun k hk=>HK.out.2 k ?_⟩;rcases hk with ((hk | hk) | hk) | hk | hk
        · exact .inl hk
        all_goals (right;omega)
  case done=>
    rintro W ⟨hj,_⟩ hK
    gi_wp2
    refine ⟨by simp,.inl ⟨_,_,rfl,run_takeDeferred hK,?_⟩⟩;exact ⟨_,results_none rfl _ _ _,⟨_,rfl⟩,hJ _ _ _ hj (yW W _ _ (by omega))⟩
  case stop=>
    rintro pre x post W hx h hK;exact h.elim
end Go.Proofs.YtjgghimjnbjlbaaGreatDoor

namespace Go.Proofs.YtjgghimjnbjlbaaGreatDoor
open Go Go.RowKit
set_option maxRecDepth 10000
set_option maxHeartbeats 8000000
attribute [local go_sem] Oper.semAt_some
def Xi (w:World) (m:Md.Mo) (e:Ending) (w':World):Prop:=∃ gf lb,e=.returned (.func (.func gf) #[] lb)/\(∀ args w,(callFunc gf args).run Tryz.prog w=.ok (.enter gf args) w)/\Below w.heap.size w w' /\
  ∀ pw pn pl n W,3<=n->w'.heap.size<=W.heap.size->(∀ k,w.heap.size<=k->k<w'.heap.size->W.heap[k]?=w'.heap[k]?)->SeqF pw pn pl n gf lb (fun k=>W.heap.size<=k/\k<W.heap.size+5) (fun k=>(w.heap.size<=k/\k<w'.heap.size)∨(W.heap.size<=k/\k<W.heap.size+5)) (W.heap.size+5) (yt m) W
theorem y0Q (pw pn pl:Nat) (n:Nat) (U T:Nat->Prop) (M:Nat) (W:World):SeqF pw pn pl n 29 #[] U T M [] W:=by
  intro J hJ hY h0;refine callsIn_of_wp Tryz.func29 rfl trivial ?_ rfl;simp only [Tryz.ntmps29,List.size_toArray,List.length_cons,List.length_nil,Nat.reduceAdd,Nat.reduceSub,Array.replicate_succ,Array.replicate_zero,List.push_toArray,List.append_toArray,List.nil_append,List.cons_append]
  gi_wp2
  go_end0;exact ⟨⟨_,rfl⟩,h0⟩
theorem y0R (m:Md.Mo) (vv vc vg:Value) (w:World) (h:MoAt w m vv vc vg):Calls Tryz.prog 10 #[yp m vv vc vg] w (Xi w m):=by
  obtain ⟨va,vp,rfl,hvm⟩:=h.v.form;obtain ⟨ca,cp,rfl,hcm⟩:=h.c.form;obtain ⟨ga,gp,rfl,hgm⟩:=h.g.form;obtain ⟨W,hW⟩:∃ W,w.alloc (.cells #[.slice va m.vars.length vp,.slice ca m.cons.length cp,.bool m.has,.slice ga m.goal.length gp] 26)=W:=⟨_,rfl⟩;have gW:W.heap[w.heap.size]?=some (.cells #[.slice va m.vars.length vp,.slice ca m.cons.length cp,.bool m.has,.slice ga m.goal.length gp] 26 (0,0)):=hAe hW;have bW:Below w.heap.size w W:=bAe hW;have HB:Hid (Below w.heap.size w W):=bW;have HM:Hid (∀ w',Below W.heap.size W w'->MoAt w' m (.slice va m.vars.length vp) (.slice ca m.cons.length cp) (.slice ga m.goal.length gp)):=fun w' hb=>(h.below bW).below hb
  have HG:Hid (∀ w',Below W.heap.size W w'->w'.heap[w.heap.size]?=some (.cells #[.slice va m.vars.length vp,.slice ca m.cons.length cp,.bool m.has,.slice ga m.goal.length gp] 26 (0,0))):=fun w' hb=>(hb.block _ (hLt gW)).trans gW
  have HC:Hid (Calls Tryz.prog 28 #[yp m (.slice va m.vars.length vp) (.slice ca m.cons.length cp) (.slice ga m.goal.length gp)] W fun e w'=>e=.returned (.bool (Md.product m 100000).2)/\Below W.heap.size W w'):=Ys m _ _ _ W (HM.out W (Below.refl _ _));have p0:=yb gW 0;have p1:=yb gW 1;have p2:=yb gW 2;have p3:=yb gW 3;dsimp at p0 p1 p2 p3;unfold yp at HC ⊢;clear h gW bW;go_enter Tryz.func10,Tryz.ntmps10;go_wp2_with fail
  refine cA HC.out ?_;rintro e w1 ⟨rfl,hb1⟩;have HB1:Hid (Below W.heap.size W w1):=hb1;clear hb1 hW HC p0 p1 p2 p3
  cases hp:(Md.product m 100000).2 with
  | false =>
    have HP:Hid ((Md.product m 100000).2=false):=hp;clear hp;go_wp2_with fail
    go_ret;refine ⟨29,#[],rfl,enters_of Tryz.func29 (by kernel_rfl) rfl,ym HB.out HB1.out,fun pw pn pl n W hn _ _=>?_⟩;unfold yt;rw [if_neg (by rw [HP.out];decide)];exact y0Q pw pn pl n _ _ _ W
  | true =>
    have HP:Hid ((Md.product m 100000).2=true):=hp;have hsm:=Xj (xO hp);have g1:=HG.out w1 HB1.out;have p0:=yb g1 0;have p1:=yb g1 1;have p2:=yb g1 2;have p3:=yb g1 3;dsimp at p0 p1 p2 p3;have HCp:Hid (Calls Tryz.prog 19 #[yp m (.slice va m.vars.length vp) (.slice ca m.cons.length cp) (.slice ga m.goal.length gp)] w1 (Y3 w1 m)):=Xk m _ _ _ w1 (HM.out w1 HB1.out) ⟨Nat.le_trans hsm.1.1 (by decide),Nat.le_trans hsm.1.2.1 (by decide),Nat.le_trans hsm.1.2.2 (by decide)⟩ (fun c hc=>⟨Nat.le_trans (hsm.2 c hc).1 (by decide),Nat.le_trans (hsm.2 c hc).2.1 (by decide),Nat.le_trans (hsm.2 c hc).2.2.1 (by decide),Nat.le_trans (hsm.2 c hc).2.2.2.1 (by decide),fun r hr=>Nat.le_trans ((hsm.2 c hc).2.2.2.2 r hr) (by decide)⟩);have HSm:Hid (m.cons.length<=1000000/\m.vars.length<=1000000):=⟨hsm.1.2.1,hsm.1.1⟩
    unfold yp at HCp;clear hp hsm g1;go_wp2_with fail
    refine cA HCp.out ?_;rintro e w2 ⟨v1,v2,v3,xs,rfl,hb2,hco,hk1,hcap,hk2⟩;obtain ⟨va2,vp2,rfl,_⟩:=hk1.now.form;obtain ⟨ga2,gp2,rfl,_⟩:=hk2.now.form;obtain ⟨ca2,cp2,rfl⟩:=yv hco.own;obtain ⟨X,hX⟩:∃ X,w2.alloc (.cells #[.slice va2 m.vars.length vp2,.slice ca2 m.cons.length cp2,.bool m.has,.slice ga2 m.goal.length gp2] 26)=X:=⟨_,rfl⟩;have gX:X.heap[w2.heap.size]?=some (.cells #[.slice va2 m.vars.length vp2,.slice ca2 m.cons.length cp2,.bool m.has,.slice ga2 m.goal.length gp2] 26 (0,0)):=hAe hX;have bX:Below w2.heap.size w2 X:=bAe hX;have sX:X.heap.size=w2.heap.size+1:=by rw [<-hX];exact Array.size_push _
    have HX:Hid (Below w.heap.size w X/\Below w1.heap.size w1 X):=⟨ym (ym (ym HB.out HB1.out) hb2) bX,ym hb2 bX⟩;have HS1:Hid (w.heap.size<=w1.heap.size):=(ym HB.out HB1.out).size;have HV:Hid (∀ W,X.heap.size<=W.heap.size->(∀ k,w.heap.size<=k->k<X.heap.size->W.heap[k]?=X.heap[k]?)->MoAt W m (.slice va2 m.vars.length vp2) (.slice ca2 m.cons.length cp2) (.slice ga2 m.goal.length gp2)/\W.heap[w2.heap.size]?=some (.cells #[.slice va2 m.vars.length vp2,.slice ca2 m.cons.length cp2,.bool m.has,.slice ga2 m.goal.length gp2] 26 (0,0))):=fun W hs hk=>by
      have hsz:=hb2.size;have hw1:=HS1.out;refine ⟨Xl hco hk1 hcap hk2 HSm.out.1 (by omega) fun k h1 h2=>?_,(hk _ (by omega) (by omega)).trans gX⟩;exact (hk k (by omega) (by omega)).trans (bX.block k h2)
    have HVb:Hid (∀ a n c g o,0<m.vars.length->Value.slice va2 m.vars.length vp2=.slice (some ⟨g,o,a⟩) n c->g<X.heap.size):=fun a n c g o h0 he=>by
      obtain ⟨a3,c3,e1,_,_,e2⟩:=hk1.now;obtain ⟨b,off,e3,e4,_⟩:=e2 h0;injection e1 with e5;injection he with e6;rw [e5,e3] at e6;injection e6 with e7;injection e7 with e8;omega
    clear hb2 hco hk1 hcap hk2 gX bX sX p0 p1 p2 p3 HCp;go_wp2_with fail
    go_ret;refine ⟨30,#[.pointer (some ⟨w2.heap.size,0,none⟩)],rfl,enters_of Tryz.func30 (by kernel_rfl) rfl,HX.out.1,fun pw pn pl n W hn hs hk=>?_⟩;unfold yt;rw [if_pos HP.out];exact y0S pw pn pl n hn w2.heap.size m _ _ _ (fun k=>w.heap.size<=k/\k<X.heap.size) W (fun v hv=>by have:=Yt (xO HP.out) v hv;omega) HSm.out.2
      (fun W' hs' hk'=>HV.out W' (by omega) fun k h1 h2=>(hk' k ⟨h1,h2⟩).trans (hk k h1 h2)) (fun k hk=>by omega) (fun a n c g o h0 he=>by have:=HVb.out a n c g o h0 he;omega)
end Go.Proofs.YtjgghimjnbjlbaaGreatDoor

namespace Go.Proofs.YtjgghimjnbjlbaaGreatDoor
open Go Go.RowKit Go.Shelf Go.Lib
set_option maxRecDepth 10000
set_option maxHeartbeats 8000000
attribute [local go_sem] Oper.semAt_some
theorem Zn {B:Nat} {x:List Int} {vs:Array Value} {W:World} {k:Nat} {o:Obj} {rec:Loop} (h:YsAt B x vs W) (hl:W.heap[k]?=some (.loop rec)):YsAt B x vs (W.putObj k o):=by
  obtain ⟨v,rfl,h⟩:=h;refine ⟨v,rfl,yN h fun g hg=>World.putObj_heap_other fun e=>?_⟩;rcases h.2 with ⟨rfl,_⟩ | ⟨g',cap,cur,rfl,_,hb,_⟩
  · cases hg
  · have:g'=g:=by simpa [Value.ownBlock] using hg
    subst this;rw [e,hl] at hb
    cases hb
theorem Zh (m:Md.Mo) (vv vc vg:Value) (w:World) (h:MoAt w m vv vc vg):Calls Tryz.prog 11 #[yp m vv vc vg] w fun e w'=>e=.returned (.tuple #[.int .i64 ((yt m).length:Int),.bool (Md.product m 100000).2])/\Below w.heap.size w w':=by
  refine (callsIn_wide (n:=5)).1 ?_;obtain ⟨va,vp,rfl,hvm⟩:=h.v.form;obtain ⟨ca,cp,rfl,hcm⟩:=h.c.form;obtain ⟨ga,gp,rfl,hgm⟩:=h.g.form;have hlen:((yt m).length:Int)<=100000:=by
    unfold yt
    split
    · rename_i hp
      have h1:=Xo hp;have h2:(yI m).length<=(allV m.vars).length:=List.length_filter_le _ _;omega
    · decide
  obtain ⟨W1,hW1⟩:∃ W,w.alloc (.cells #[.slice va m.vars.length vp,.slice ca m.cons.length cp,.bool m.has,.slice ga m.goal.length gp] 26)=W:=⟨_,rfl⟩;have g1:W1.heap[w.heap.size]?=some (.cells #[.slice va m.vars.length vp,.slice ca m.cons.length cp,.bool m.has,.slice ga m.goal.length gp] 26 (0,0)):=hAe hW1;have b1:Below w.heap.size w W1:=bAe hW1;have z1:W1.heap.size=w.heap.size+1:=by rw [<-hW1];exact Array.size_push _
  obtain ⟨Wz,hWz⟩:∃ W,W1.alloc (.cells #[.int .i64 0] 3)=W:=⟨_,rfl⟩;have gz:Wz.heap[w.heap.size+1]?=some (.cells #[.int .i64 0] 3 (0,0)):=by rw [<-hWz,<-z1];exact heap_alloc_new W1 _
  have bz:Below W1.heap.size W1 Wz:=bAe hWz;have zz:Wz.heap.size=w.heap.size+2:=by
    have h:Wz.heap.size=W1.heap.size+1:=by rw [<-hWz];exact Array.size_push _
    omega
  have cz:Wz.cell? ⟨w.heap.size+1,0,none⟩=some (.int .i64 0):=yb gz 0;have fz:Wz.frozen? ⟨w.heap.size+1,0,none⟩=false:=yl gz 0;obtain ⟨W2,hW2⟩:∃ W,Wz.setCell ⟨w.heap.size+1,0,none⟩ (.int .i64 0)=W:=⟨_,rfl⟩;have g2:W2.heap[w.heap.size+1]?=some (.cells #[.int .i64 0] 3 (0,0)):=by rw [<-hW2];exact yB gz 0 _
  have b2:Below W1.heap.size W1 W2:=by rw [<-hW2];exact bz.setCell (show W1.heap.size<=w.heap.size+1 by omega) _
  have z2:W2.heap.size=w.heap.size+2:=by rw [<-hW2];simp [zz]
  have g12:W2.heap[w.heap.size]?=some (.cells #[.slice va m.vars.length vp,.slice ca m.cons.length cp,.bool m.has,.slice ga m.goal.length gp] 26 (0,0)):=(b2.block _ (by omega)).trans g1;have hbw:Below w.heap.size w W2:=ym b1 b2;have hMo:∀ W,Below w.heap.size w W->MoAt W m (.slice va m.vars.length vp) (.slice ca m.cons.length cp) (.slice ga m.goal.length gp):=fun W hb=>h.below hb
  have hS:=callsIn_wide (n:=4) |>.2 (Zo m _ _ _ W2 (hMo W2 hbw));unfold yp at hS ⊢;have p0:=yb g12 0;have p1:=yb g12 1;have p2:=yb g12 2;have p3:=yb g12 3;dsimp at p0 p1 p2 p3;have HMo:Hid (∀ W,Below w.heap.size w W->MoAt W m (.slice va m.vars.length vp) (.slice ca m.cons.length cp) (.slice ga m.goal.length gp)):=hMo;clear h hMo;refine callsIn_of_wp_marks Tryz.func11 rfl trivial ?_ rfl;simp only [Tryz.ntmps11,List.size_toArray,List.length_cons,List.length_nil,Nat.reduceAdd,Nat.reduceSub,Array.replicate_succ,Array.replicate_zero,List.push_toArray,List.append_toArray,List.nil_append,List.cons_append]
  gi_wp2_with (refine ⟨trivial,?_⟩;gi_at_call 10;refine hS.mono ?_;rintro e w3 ⟨gf,lb,rfl,hen,hb3,hsq⟩)
  clear hS p0 p1 p2 p3 cz fz hWz hW2 hW1;have HB3:Hid (Below w.heap.size w w3):=ym hbw hb3;have HG3:Hid (w3.heap[w.heap.size]?=some (.cells #[.slice va m.vars.length vp,.slice ca m.cons.length cp,.bool m.has,.slice ga m.goal.length gp] 26 (0,0))/\w3.heap[w.heap.size+1]?=some (.cells #[.int .i64 0] 3 (0,0))):=⟨(hb3.block _ (by omega)).trans g12,(hb3.block _ (by omega)).trans g2⟩;have hs3:w.heap.size+2<=w3.heap.size:=by have:=hb3.size;omega
  clear g1 b1 gz bz zz g2 b2 g12 hbw hb3;refine Yg (α:=List Int) rfl (by decide) (gf:=gf) (lb:=lb) rfl trivial hen (Y:=YsAt (w3.heap.size+2+5)) (U:=fun k=>w3.heap.size+2<=k/\k<w3.heap.size+2+5) (T:=fun k=>(W2.heap.size<=k/\k<w3.heap.size)∨(w3.heap.size+2<=k/\k<w3.heap.size+2+5)) (M:=w3.heap.size+2+5) (fun k hk=>.inr hk) (xs:=yt m) (fun k hk=>by omega)
    (fun W hb hsz=>by
      have:=hsq 4 W (by decide) (by omega) fun k h1 h2=>hb.block k (by omega)
      rw [hsz] at this
      exact this) (fun x vs W h=>by obtain ⟨v,rfl,_⟩:=h;rfl)
    (fun x vs W k o rec h hl=>Zn h hl)
    (fun pre W=>W.heap[w.heap.size]?=some (.cells #[.slice va m.vars.length vp,.slice ca m.cons.length cp,.bool m.has,.slice ga m.goal.length gp] 26 (0,0))/\W.heap[w.heap.size+1]?=some (.cells #[.int .i64 (pre.length:Int)] 3 (0,0))/\Below w.heap.size w W/\w3.heap.size<=W.heap.size)
    (fun _ _=>False)
    (fun pre A B hs ho=>⟨(ho.block _ (hLt hs.1) (by omega)).trans hs.1,(ho.block _ (hLt hs.2.1) (by omega)).trans hs.2.1,hs.2.2.1.trans (ho.below (fun k hk=>by omega) (by have:=hs.2.2.2;omega)),Nat.le_trans hs.2.2.2 ho.size⟩)
    (fun _ _ _ h _=>h)
    ⟨HG3.out.1,HG3.out.2,HB3.out,Nat.le_refl _⟩
    (fun vs=>{ tmps:=#[.agg #[.slice va m.vars.length vp,.slice ca m.cons.length cp,.bool m.has,.slice ga m.goal.length gp],.pointer (some ⟨w.heap.size,0,none⟩),.int .i64 0,.bool false,.pointer (some ⟨w.heap.size+1,0,none⟩),.agg #[.slice va m.vars.length vp,.slice ca m.cons.length cp,.bool m.has,.slice ga m.goal.length gp],.func (.func gf) #[] lb,vs.getD 0 undef,undef,undef,undef,undef,undef],defers:=[] }) ?assign ?body ?done ?stop
  case assign=>
    rintro l' x vs W K ⟨v,rfl,_⟩ hK
    gi_wp2
    simpa using hK
  case body=>
    rintro l' pre x post vs W hx ⟨hm1,hc1,hbW,hsW⟩ hM hsz hY;have hpl:(pre.length:Int)<=100000:=by rw [hx] at hlen;simp at hlen;omega
    have hwr:wrap64 ((pre.length:Int)+1)=(pre.length:Int)+1:=by unfold wrap64;omega
    have c4:W.cell? ⟨w.heap.size+1,0,none⟩=some (.int .i64 (pre.length:Int)):=yb hc1 0;have f4:W.frozen? ⟨w.heap.size+1,0,none⟩=false:=yl hc1 0
    gi_wp2
    refine ⟨⟨(heap_setCell_other W ⟨w.heap.size+1,0,none⟩ w.heap.size _ (show w.heap.size≠w.heap.size+1 by omega)).trans hm1,?_,hbW.setCell (show w.heap.size<=w.heap.size+1 by omega) _⟩,fun k hk=>heap_setCell_other W ⟨w.heap.size+1,0,none⟩ k _ (show k≠w.heap.size+1 by omega)⟩;have e:=yB hc1 0 (.int .i64 ((pre.length:Int)+1));simpa using e
  case done=>
    rintro W ⟨hm1,hc1,hbW,hsW⟩ hK;have c4:W.drew.cell? ⟨w.heap.size+1,0,none⟩=some (.int .i64 ((yt m).length:Int)):=yb hc1 0;have hCt:Calls Tryz.prog 28 #[.agg #[.slice va m.vars.length vp,.slice ca m.cons.length cp,.bool m.has,.slice ga m.goal.length gp]] W.drew fun e w'=>e=.returned (.bool (Md.product m 100000).2)/\Below W.drew.heap.size W.drew w':=Ys m _ _ _ W.drew (HMo.out W.drew hbW.drew)
    have HC1:Hid (W.drew.heap[w.heap.size+1]?=some (.cells #[.int .i64 ((yt m).length:Int)] 3 (0,0))):=hc1;have hsD:w.heap.size+2<=W.drew.heap.size:=by show _<=W.heap.size;omega
    have HWs:Hid (W.drew.heap.size=W.heap.size):=rfl;have hm:Tryz.prog.follows .mixedOrders=true:=by kernel_rfl
    have q0:W.drew.cell? _=_:=yb hm1 0;have q1:W.drew.cell? _=_:=yb hm1 1;have q2:W.drew.cell? _=_:=yb hm1 2;have q3:W.drew.cell? _=_:=yb hm1 3;dsimp at q0 q1 q2 q3;have HK:Hid (W.drew.heap[w3.heap.size]?=some (.deferred (some []))):=hK;have HbW:Hid (Below w.heap.size w W.drew):=hbW.drew;have hsW':Hid (w3.heap.size<W.drew.heap.size):=(hLt hK);clear hK hbW hm1 hc1
    gi_wp2
    rename_i K hKK
    refine wpIn_wide.2 (wp_mono (Q:=Exit.then K (fun _ _ _=>False)) ?_ (fun e a w h=>by cases e <;> first | exact h | exact h.elim))
    go_region_with (go_at_call 28;refine hCt.mono ?_;rintro e w1 ⟨rfl,hb1⟩;have c5:w1.cell? ⟨w.heap.size+1,0,none⟩=some (.int .i64 ((yt m).length:Int)):=yb ((hb1.block _ (by have:=HWs.out;omega)).trans HC1.out) 0;have HB1:Hid (Below W.drew.heap.size W.drew w1):=hb1;clear hb1)
    all_goals
      show K _ _;refine hKK _ _ ?_
      gi_wp2
      have e1:=HbW.out.size;have e2:=HB1.out.size;have e3:=hsW'.out;have HK1:w1.heap[w3.heap.size]?=some (.deferred (some [])):=(HB1.out.block _ (by omega)).trans HK.out;refine ⟨by simp,.inl ⟨_,_,rfl,run_takeDeferred HK1,?_⟩⟩;refine ⟨.tuple #[.int .i64 ((yt m).length:Int),.bool (Md.product m 100000).2],by simp [results,Tryz.results11,go_sem],rfl,?_⟩;exact (HbW.out.trans (HB1.out.mono e1)).trans ((yW (S:=fun k=>w.heap.size<=k) w1 _ _ (by omega)).below (fun k hk=>hk) (by omega))
  case stop=>exact fun _ _ _ _ _ h _=>h.elim
end Go.Proofs.YtjgghimjnbjlbaaGreatDoor

namespace Go.Proofs.YtjgghimjnbjlbaaGreatDoor
open Go Go.RowKit Go.Shelf Go.Lib
set_option maxRecDepth 10000
set_option maxHeartbeats 8000000
attribute [local go_sem] Oper.semAt_some
def vdC (k wo c:Int) (v:Value):Array Value:=#[.int .i64 k,.int .i64 0,.int .i64 wo,.int .i64 c,v]
theorem infV:(Tryz.prog.info? 39).map (·.size)=some 5:=by kernel_rfl
theorem zE {W:World} {g:Nat} {t:TypeId} {b0 b1 b2 b3 b4:Value} (h:W.heap[g]?=some (.cells #[b0,b1,b2,b3,b4] t (0,0))) (a0 a1 a2 a3 a4:Value):(((((W.setCell ⟨g,0,none⟩ a0).setCell ⟨g,1,none⟩ a1).setCell ⟨g,2,none⟩ a2).setCell ⟨g,3,none⟩ a3).setCell ⟨g,4,none⟩ a4).heap[g]?=some (.cells #[a0,a1,a2,a3,a4] t (0,0)):=by
  have h0:=yB h 0 a0;have h1:=yB h0 1 a1;have h2:=yB h1 2 a2;have h3:=yB h2 3 a3;have h4:=yB h3 4 a4;simpa using h4
theorem zN (W:World) (g:Nat) (a0 a1 a2 a3 a4:Value) (k:Nat) (hk:k≠g):(((((W.setCell ⟨g,0,none⟩ a0).setCell ⟨g,1,none⟩ a1).setCell ⟨g,2,none⟩ a2).setCell ⟨g,3,none⟩ a3).setCell ⟨g,4,none⟩ a4).heap[k]?=W.heap[k]?:=by
  rw [heap_setCell_other _ _ _ _ (by exact hk),heap_setCell_other _ _ _ _ (by exact hk),heap_setCell_other _ _ _ _ (by exact hk),heap_setCell_other _ _ _ _ (by exact hk),heap_setCell_other _ _ _ _ (by exact hk)]
theorem zM {w W:World} {B:Nat} (hb:Below B w W) (g:Nat) (hg:B<=g) (a0 a1 a2 a3 a4:Value):Below B w (((((W.setCell ⟨g,0,none⟩ a0).setCell ⟨g,1,none⟩ a1).setCell ⟨g,2,none⟩ a2).setCell ⟨g,3,none⟩ a3).setCell ⟨g,4,none⟩ a4):=
  ((((hb.setCell hg _).setCell hg _).setCell hg _).setCell hg _).setCell hg _
theorem zO {w:World} {B:Nat} {e:TypeId} {size:Nat} {v:Value} {n:Nat} {xs:List Value} (h:w.ownsRow B e size v n xs) {g:Nat} (hg:v.ownBlock=some g):B<=g/\g<w.heap.size:=by
  rcases h.2 with ⟨rfl,_⟩ | ⟨g',cap,cur,rfl,hb,hgc,_⟩
  · cases hg
  · have:g'=g:=by simpa [Value.ownBlock] using hg
    subst this;exact ⟨hb,(hLt hgc)⟩
def FsO (m:Md.Mo) (w:World) (e:Ending) (W:World):Prop:=Below w.heap.size w W/\((yt m=[]/\e=.returned (.agg (vdC 2 0 0 (.slice none 0 0))))∨∃ x q v B,yt m=x :: q/\e=.returned (.agg (vdC 3 0 0 v))/\w.heap.size<=B/\W.ownsRow B 3 1 v x.length (x.map (.int .i64)))
def FsAt (m:Md.Mo) (w:World) (p B:Nat) (pre:List (List Int)) (W:World):Prop:=∃ x q v,pre=[x]/\yt m=x :: q/\W.heap[p]?=some (.cells (vdC 3 0 0 v) 39 (0,0))/\W.ownsRow B 3 1 v x.length (x.map (.int .i64))/\Below w.heap.size w W
theorem y1j (m:Md.Mo) (vv vc vg:Value) (w:World) (h:MoAt w m vv vc vg):Calls Tryz.prog 35 #[yp m vv vc vg] w (FsO m w):=by
  refine (callsIn_wide (n:=5)).1 ?_;obtain ⟨va,vp,rfl,hvm⟩:=h.v.form;obtain ⟨ca,cp,rfl,hcm⟩:=h.c.form;obtain ⟨ga,gp,rfl,hgm⟩:=h.g.form;obtain ⟨W1,hW1⟩:∃ W,w.alloc (.cells #[.slice va m.vars.length vp,.slice ca m.cons.length cp,.bool m.has,.slice ga m.goal.length gp] 26)=W:=⟨_,rfl⟩;have g1:W1.heap[w.heap.size]?=some (.cells #[.slice va m.vars.length vp,.slice ca m.cons.length cp,.bool m.has,.slice ga m.goal.length gp] 26 (0,0)):=hAe hW1;have b1:Below w.heap.size w W1:=bAe hW1;have z1:W1.heap.size=w.heap.size+1:=by rw [<-hW1];exact Array.size_push _
  obtain ⟨W2,hW2⟩:∃ W,W1.alloc (.cells #[.int .i64 0,.int .i64 0,.int .i64 0,.int .i64 0,.slice none 0 0] 39)=W:=⟨_,rfl⟩;have g2:W2.heap[w.heap.size+1]?=some (.cells #[.int .i64 0,.int .i64 0,.int .i64 0,.int .i64 0,.slice none 0 0] 39 (0,0)):=by rw [<-hW2,<-z1];exact heap_alloc_new W1 _
  have b2:Below W1.heap.size W1 W2:=bAe hW2;have z2:W2.heap.size=w.heap.size+2:=by
    have h:W2.heap.size=W1.heap.size+1:=by rw [<-hW2];exact Array.size_push _
    omega
  have g12:W2.heap[w.heap.size]?=some (.cells #[.slice va m.vars.length vp,.slice ca m.cons.length cp,.bool m.has,.slice ga m.goal.length gp] 26 (0,0)):=(b2.block _ (by omega)).trans g1;have hbw:Below w.heap.size w W2:=ym b1 b2;have hS:=callsIn_wide (n:=4) |>.2 (Zo m _ _ _ W2 (h.below hbw));unfold yp at hS ⊢;have p0:=yb g12 0;have p1:=yb g12 1;have p2:=yb g12 2;have p3:=yb g12 3;dsimp at p0 p1 p2 p3;clear h;refine callsIn_of_wp_marks Tryz.func35 rfl trivial ?_ rfl;simp only [Tryz.ntmps35,List.size_toArray,List.length_cons,List.length_nil,Nat.reduceAdd,Nat.reduceSub,Array.replicate_succ,Array.replicate_zero,List.push_toArray,List.append_toArray,List.nil_append,List.cons_append]
  gi_wp2_with (refine ⟨trivial,?_⟩;gi_at_call 10;refine hS.mono ?_;rintro e w3 ⟨gf,lb,rfl,hen,hb3,hsq⟩)
  clear hS p0 p1 p2 p3 hW2 hW1;have HB3:Hid (Below w.heap.size w w3):=ym hbw hb3;have HG3:Hid (w3.heap[w.heap.size+1]?=some (.cells #[.int .i64 0,.int .i64 0,.int .i64 0,.int .i64 0,.slice none 0 0] 39 (0,0))):=(hb3.block _ (by omega)).trans g2;have hs3:w.heap.size+2<=w3.heap.size:=by have:=hb3.size;omega
  clear g1 b1 g2 b2 g12 hbw hb3;refine Yg (α:=List Int) rfl (by decide) (gf:=gf) (lb:=lb) rfl trivial hen (Y:=YsAt (w3.heap.size+2+5)) (U:=fun k=>w3.heap.size+2<=k/\k<w3.heap.size+2+5) (T:=fun k=>(W2.heap.size<=k/\k<w3.heap.size)∨(w3.heap.size+2<=k/\k<w3.heap.size+2+5)) (M:=w3.heap.size+2+5) (fun k hk=>.inr hk) (xs:=yt m) (fun k hk=>by omega)
    (fun W hb hsz=>by
      have:=hsq 4 W (by decide) (by omega) fun k h1 h2=>hb.block k (by omega)
      rw [hsz] at this
      exact this) (fun x vs W h=>by obtain ⟨v,rfl,_⟩:=h;rfl)
    (fun x vs W k o rec h hl=>Zn h hl)
    (fun pre W=>pre=[]/\W.heap[w.heap.size+1]?=some (.cells #[.int .i64 0,.int .i64 0,.int .i64 0,.int .i64 0,.slice none 0 0] 39 (0,0))/\Below w.heap.size w W/\w3.heap.size<=W.heap.size)
    (FsAt m w (w.heap.size+1) (w3.heap.size+2+5))
    (fun pre A B hs ho=>⟨hs.1,(ho.block _ (hLt hs.2.1) (by omega)).trans hs.2.1,hs.2.2.1.trans (ho.below (fun k hk=>by omega) (by have:=hs.2.2.2;omega)),Nat.le_trans hs.2.2.2 ho.size⟩)
    (fun pre A B hs ho=>by
      obtain ⟨x,q,v,e1,e2,hc,how,hb⟩:=hs;refine ⟨x,q,v,e1,e2,(ho.block _ (hLt hc) (by omega)).trans hc,yN how fun g hg=>?_,hb.trans (ho.below (fun k hk=>by omega) hb.size)⟩;rcases how.2 with ⟨rfl,_⟩ | ⟨g',cap,cur,rfl,hbg,hgc,_⟩
      · cases hg
      · have:g'=g:=by simpa [Value.ownBlock] using hg
        subst this
        exact ho.block _ (hLt hgc) (by omega))
    ⟨rfl,HG3.out,HB3.out,Nat.le_refl _⟩
    (fun vs=>{ tmps:=#[.agg #[.slice va m.vars.length vp,.slice ca m.cons.length cp,.bool m.has,.slice ga m.goal.length gp],.pointer (some ⟨w.heap.size,0,none⟩),.pointer (some ⟨w.heap.size+1,0,none⟩),vs.getD 0 undef,.agg #[.slice va m.vars.length vp,.slice ca m.cons.length cp,.bool m.has,.slice ga m.goal.length gp],.func (.func gf) #[] lb,vs.getD 0 undef,undef,undef,undef],defers:=[] }) ?assign ?body ?done ?stop
  case assign=>
    rintro l' x vs W K ⟨v,rfl,_⟩ hK
    gi_wp2
    simpa using hK
  case body=>
    rintro l' pre x post vs W hx ⟨rfl,hc1,hbW,hsW⟩ hM hsz ⟨v,rfl,how⟩;obtain ⟨ya,yc,rfl⟩:∃ ya yc,v=.slice ya x.length yc:=by
      rcases how.2 with ⟨rfl,h0⟩ | ⟨g',cap,cur,rfl,_⟩
      · exact ⟨none,0,by rw [h0]⟩
      · exact ⟨_,_,rfl⟩
    simp only [Array.getD_eq_getD_getElem?,List.getElem?_toArray,List.getElem?_cons_zero,Option.getD_some];have c0:=yb hc1 0;have c1:=yb hc1 1;have c2:=yb hc1 2;have c3:=yb hc1 3;have c4:=yb hc1 4;have f0:=yl hc1 0;have f1:=yl hc1 1;have f2:=yl hc1 2;have f3:=yl hc1 3;have f4:=yl hc1 4;dsimp at c0 c1 c2 c3 c4;have HOw:Hid (W.ownsRow (w3.heap.size+2+5) 3 1 (.slice ya x.length yc) x.length (x.map (.int .i64))):=how;have HbW:Hid (Below w.heap.size w W):=hbW;have HC1:Hid (W.heap[w.heap.size+1]?=some (.cells #[.int .i64 0,.int .i64 0,.int .i64 0,.int .i64 0,.slice none 0 0] 39 (0,0))):=hc1;have HX:Hid (yt m=[]++x :: post):=hx;clear how hbW hc1 hx
    gi_wp2
    refine ⟨⟨x,post,_,rfl,HX.out,zE HC1.out _ _ _ _ _,yN HOw.out fun g hg=>zN W (w.heap.size+1) _ _ _ _ _ g (by have:=(zO HOw.out hg).1;omega),zM HbW.out (w.heap.size+1) (by omega) _ _ _ _ _⟩,fun k hk=>zN W (w.heap.size+1) _ _ _ _ _ k (by omega)⟩
  case done=>
    rintro W ⟨he,hc1,hbW,hsW⟩ hK;have c0:=yb hc1 0;have c1:=yb hc1 1;have c2:=yb hc1 2;have c3:=yb hc1 3;have c4:=yb hc1 4;have f0:=yl hc1 0;have f1:=yl hc1 1;have f2:=yl hc1 2;have f3:=yl hc1 3;have f4:=yl hc1 4;dsimp at c0 c1 c2 c3 c4;have HbW:Hid (Below w.heap.size w W):=hbW;have HC1:Hid (W.heap[w.heap.size+1]?=some (.cells #[.int .i64 0,.int .i64 0,.int .i64 0,.int .i64 0,.slice none 0 0] 39 (0,0))):=hc1;have HE:Hid (yt m=[]):=he;have HK:Hid (W.heap[w3.heap.size]?=some (.deferred (some []))):=hK;clear hbW hc1 he hK;have e3:=(hLt HK.out)
    gi_wp2
    have HK1:=(zN W (w.heap.size+1) (.int .i64 2) (.int .i64 0) (.int .i64 0) (.int .i64 0) (.slice none 0 0) w3.heap.size (by omega)).trans HK.out;have hg5:=zE HC1.out (.int .i64 2) (.int .i64 0) (.int .i64 0) (.int .i64 0) (.slice none 0 0);have hb5:=zM HbW.out (w.heap.size+1) (by omega) (.int .i64 2) (.int .i64 0) (.int .i64 0) (.int .i64 0) (.slice none 0 0);refine ⟨by simp,.inl ⟨_,_,rfl,run_takeDeferred HK1,?_⟩⟩;refine ⟨.agg (vdC 2 0 0 (.slice none 0 0)),results_cell_row Tryz.results35 _ _ (w.heap.size+1) 39 (vdC 2 0 0 (.slice none 0 0)) (0,0) _ rfl ((World.putObj_heap_other (by omega)).trans hg5) Tryz.underlying39 rfl infV,?_⟩;exact ⟨hb5.trans ((yW (S:=fun k=>w.heap.size<=k) _ _ _ (by omega)).below (fun k hk=>hk) hb5.size),.inl ⟨HE.out,rfl⟩⟩
  case stop=>
    rintro pre x post W hx ⟨x',q,v,e1,e2,hc,how,hb⟩ hK
    gi_wp2
    refine ⟨by simp,.inl ⟨_,_,rfl,run_takeDeferred hK,?_⟩⟩;refine ⟨.agg (vdC 3 0 0 v),results_cell_row Tryz.results35 _ _ (w.heap.size+1) 39 (vdC 3 0 0 v) (0,0) _ rfl ((World.putObj_heap_other (by omega)).trans hc) Tryz.underlying39 rfl infV,?_⟩;refine ⟨hb.trans ((yW (S:=fun k=>w.heap.size<=k) _ _ _ (by omega)).below (fun k hk=>hk) hb.size),.inr ⟨x',q,v,w3.heap.size+2+5,e2,rfl,by omega,yN how fun g hg=>World.putObj_heap_other ?_⟩⟩;have:=(zO how hg).1;omega
end Go.Proofs.YtjgghimjnbjlbaaGreatDoor

namespace Go.Proofs.YtjgghimjnbjlbaaGreatDoor
open Go Go.RowKit Go.Shelf Go.Lib
set_option maxRecDepth 10000
set_option maxHeartbeats 8000000
attribute [local go_sem] Oper.semAt_some
def Md.goalOf (m:Md.Mo):Md.Mo:={ m with cons:=[] }
def bstS (m:Md.Mo) (o:Option (Int × List Int)) (x:List Int):Option (Int × List Int):=match o with
  | none=>some (Md.worth (Md.goalOf m) x,x)
  | some (b,y)=>if Md.worth (Md.goalOf m) x<b then some (Md.worth (Md.goalOf m) x,x) else some (b,y)
def bst (m:Md.Mo) (L:List (List Int)):Option (Int × List Int):=L.foldl (bstS m) none
theorem XW (m:Md.Mo) (L:List (List Int)) (x:List Int):bst m (L++[x])=bstS m (bst m L) x:=by unfold bst;rw [List.foldl_append];rfl
def BsAt (o:Option (Int × List Int)) (p B:Nat) (W:World):Prop:=match o with
  | none=>W.heap[p]?=some (.cells (vdC 2 0 0 (.slice none 0 0)) 39 (0,0))
  | some (b,y)=>∃ v,W.heap[p]?=some (.cells (vdC 4 b 0 v) 39 (0,0))/\W.ownsRow B 3 1 v y.length (y.map (.int .i64))
theorem BsAt.keep {o:Option (Int × List Int)} {p B:Nat} {W W':World} (h:BsAt o p B W) (hp:W'.heap[p]?=W.heap[p]?) (hk:∀ k,B<=k->k<W.heap.size->W'.heap[k]?=W.heap[k]?):BsAt o p B W':=by
  cases o with
  | none=>exact hp.trans h
  | some o =>
    obtain ⟨v,h1,h2⟩:=h;exact ⟨v,hp.trans h1,yN h2 fun g hg=>hk g (zO h2 hg).1 (zO h2 hg).2⟩
def LsO (m:Md.Mo) (w:World) (e:Ending) (W:World):Prop:=Below w.heap.size w W/\match bst m (yt m) with
  | none=>e=.returned (.agg (vdC 2 0 0 (.slice none 0 0)))
  | some (b,y)=>∃ v B,e=.returned (.agg (vdC 4 b 0 v))/\w.heap.size<=B/\W.ownsRow B 3 1 v y.length (y.map (.int .i64))
theorem Yf {w:World} {B:Nat} {v:Value} {x:List Int} (h:w.ownsRow B 3 1 v x.length (x.map (.int .i64))):MInts w v x:=by
  rcases h.2 with ⟨rfl,h0⟩ | ⟨g,cap,cur,rfl,hb,hg,hn,hc,hsz,ht⟩
  · exact ⟨none,0,by rw [h0],by omega,fun h1=>by omega⟩
  · refine ⟨_,cap,rfl,by omega,fun _=>⟨g,0,rfl,(hLt hg),fun j hj=>?_⟩⟩
    rw [Nat.zero_add];have e:cur.toList[j]?=some (.int .i64 x[j]):=by
      have e1:(cur.toList.take (x.length * 1))[j]?=(x.map (Value.int .i64))[j]?:=by rw [ht]
      rw [List.getElem?_take_of_lt (by omega)] at e1;rw [e1];simp [hj]
    simpa using (yb hg j).trans (by simpa using e)
theorem y1E {w:World} {m:Md.Mo} {vv vc vg:Value} (h:MoAt w m vv vc vg):MoAt w (Md.goalOf m) vv (.slice none 0 0) vg:=
  ⟨h.v,h.vcap,⟨none,0,rfl,Nat.zero_le _,fun h=>absurd h (Nat.lt_irrefl 0)⟩,h.g⟩
theorem y1l (m:Md.Mo) (vv vc vg:Value) (w:World) (h:MoAt w m vv vc vg):Calls Tryz.prog 34 #[yp m vv vc vg] w (LsO m w):=by
  refine (callsIn_wide (n:=5)).1 ?_;obtain ⟨va,vp,rfl,hvm⟩:=h.v.form;obtain ⟨ca,cp,rfl,hcm⟩:=h.c.form;obtain ⟨ga,gp,rfl,hgm⟩:=h.g.form;obtain ⟨W1,hW1⟩:∃ W,w.alloc (.cells #[.slice va m.vars.length vp,.slice ca m.cons.length cp,.bool m.has,.slice ga m.goal.length gp] 26)=W:=⟨_,rfl⟩;have g1:W1.heap[w.heap.size]?=some (.cells #[.slice va m.vars.length vp,.slice ca m.cons.length cp,.bool m.has,.slice ga m.goal.length gp] 26 (0,0)):=hAe hW1;have b1:Below w.heap.size w W1:=bAe hW1;have z1:W1.heap.size=w.heap.size+1:=by rw [<-hW1];exact Array.size_push _
  obtain ⟨W2,hW2⟩:∃ W,W1.alloc (.cells #[.int .i64 0,.int .i64 0,.int .i64 0,.int .i64 0,.slice none 0 0] 39)=W:=⟨_,rfl⟩;have g2:W2.heap[w.heap.size+1]?=some (.cells #[.int .i64 0,.int .i64 0,.int .i64 0,.int .i64 0,.slice none 0 0] 39 (0,0)):=by rw [<-hW2,<-z1];exact heap_alloc_new W1 _
  have b2:Below w.heap.size w W2:=by rw [<-hW2];exact b1.alloc (by omega) _
  have z2:W2.heap.size=w.heap.size+2:=by
    have h:W2.heap.size=W1.heap.size+1:=by rw [<-hW2];exact Array.size_push _
    omega
  have m2:W2.heap[w.heap.size]?=some (.cells #[.slice va m.vars.length vp,.slice ca m.cons.length cp,.bool m.has,.slice ga m.goal.length gp] 26 (0,0)):=by rw [<-hW2];exact (Below.heap_alloc _ _ _ (by omega)).trans g1
  obtain ⟨W3,hW3⟩:∃ W,W2.alloc (.cells #[.int .i64 0,.int .i64 0,.int .i64 0,.int .i64 0,.slice none 0 0] 39)=W:=⟨_,rfl⟩;have g3:W3.heap[w.heap.size+2]?=some (.cells #[.int .i64 0,.int .i64 0,.int .i64 0,.int .i64 0,.slice none 0 0] 39 (0,0)):=by rw [<-hW3,<-z2];exact heap_alloc_new W2 _
  have b3:Below w.heap.size w W3:=by rw [<-hW3];exact b2.alloc (by omega) _
  have z3:W3.heap.size=w.heap.size+3:=by
    have h:W3.heap.size=W2.heap.size+1:=by rw [<-hW3];exact Array.size_push _
    omega
  have m3:W3.heap[w.heap.size]?=some (.cells #[.slice va m.vars.length vp,.slice ca m.cons.length cp,.bool m.has,.slice ga m.goal.length gp] 26 (0,0)):=by rw [<-hW3];exact (Below.heap_alloc _ _ _ (by omega)).trans m2
  have r3:W3.heap[w.heap.size+1]?=some (.cells #[.int .i64 0,.int .i64 0,.int .i64 0,.int .i64 0,.slice none 0 0] 39 (0,0)):=by rw [<-hW3];exact (Below.heap_alloc _ _ _ (by omega)).trans g2
  obtain ⟨W4,hW4⟩:∃ W,(((((W3.setCell ⟨w.heap.size+2,0,none⟩ (.int .i64 2)).setCell ⟨w.heap.size+2,1,none⟩ (.int .i64 0)).setCell ⟨w.heap.size+2,2,none⟩ (.int .i64 0)).setCell ⟨w.heap.size+2,3,none⟩ (.int .i64 0)).setCell ⟨w.heap.size+2,4,none⟩ (.slice none 0 0))=W:=⟨_,rfl⟩;have g4:W4.heap[w.heap.size+2]?=some (.cells (vdC 2 0 0 (.slice none 0 0)) 39 (0,0)):=by rw [<-hW4];exact zE g3 _ _ _ _ _
  have b4:Below w.heap.size w W4:=by rw [<-hW4];exact zM b3 _ (by omega) _ _ _ _ _
  have z4:W4.heap.size=w.heap.size+3:=by rw [<-hW4];simpa using z3
  have m4:W4.heap[w.heap.size]?=some (.cells #[.slice va m.vars.length vp,.slice ca m.cons.length cp,.bool m.has,.slice ga m.goal.length gp] 26 (0,0)):=by rw [<-hW4];exact (zN _ _ _ _ _ _ _ _ (by omega)).trans m3
  have r4:W4.heap[w.heap.size+1]?=some (.cells #[.int .i64 0,.int .i64 0,.int .i64 0,.int .i64 0,.slice none 0 0] 39 (0,0)):=by rw [<-hW4];exact (zN _ _ _ _ _ _ _ _ (by omega)).trans r3
  obtain ⟨W5,hW5⟩:∃ W,W4.alloc (.cells #[.slice none 0 0,.slice none 0 0,.bool false,.slice none 0 0] 26)=W:=⟨_,rfl⟩;have g5:W5.heap[w.heap.size+3]?=some (.cells #[.slice none 0 0,.slice none 0 0,.bool false,.slice none 0 0] 26 (0,0)):=by rw [<-hW5,<-z4];exact heap_alloc_new W4 _
  have b5:Below w.heap.size w W5:=by rw [<-hW5];exact b4.alloc (by omega) _
  have z5:W5.heap.size=w.heap.size+4:=by
    have h:W5.heap.size=W4.heap.size+1:=by rw [<-hW5];exact Array.size_push _
    omega
  have k5:∀ k,k<w.heap.size+3->W5.heap[k]?=W4.heap[k]?:=fun k hk=>by rw [<-hW5];exact Below.heap_alloc _ _ _ (by omega)
  obtain ⟨W6,hW6⟩:∃ W,((((W5.setCell ⟨w.heap.size+3,0,none⟩ (.slice va m.vars.length vp)).setCell ⟨w.heap.size+3,1,none⟩ (.slice none 0 0)).setCell ⟨w.heap.size+3,2,none⟩ (.bool m.has)).setCell ⟨w.heap.size+3,3,none⟩ (.slice ga m.goal.length gp))=W:=⟨_,rfl⟩;have g6:W6.heap[w.heap.size+3]?=some (.cells #[.slice va m.vars.length vp,.slice none 0 0,.bool m.has,.slice ga m.goal.length gp] 26 (0,0)):=by
    rw [<-hW6];simpa using yB (yB (yB (yB g5 0 (.slice va m.vars.length vp)) 1 (.slice none 0 0)) 2 (.bool m.has)) 3 (.slice ga m.goal.length gp)
  have b6:Below w.heap.size w W6:=by rw [<-hW6];exact (((b5.setCell (show w.heap.size<=w.heap.size+3 by omega) _).setCell (show w.heap.size<=w.heap.size+3 by omega) _).setCell (show w.heap.size<=w.heap.size+3 by omega) _).setCell (show w.heap.size<=w.heap.size+3 by omega) _
  have z6:W6.heap.size=w.heap.size+4:=by rw [<-hW6];simpa using z5
  have k6:∀ k,k<w.heap.size+3->W6.heap[k]?=W4.heap[k]?:=fun k hk=>by
    rw [<-hW6,heap_setCell_other _ _ _ _ (show k≠w.heap.size+3 by omega),heap_setCell_other _ _ _ _ (show k≠w.heap.size+3 by omega),heap_setCell_other _ _ _ _ (show k≠w.heap.size+3 by omega),heap_setCell_other _ _ _ _ (show k≠w.heap.size+3 by omega)];exact k5 k hk
  have m6:=(k6 w.heap.size (by omega)).trans m4;have HR6:Hid (W6.heap[w.heap.size+1]?=some (.cells #[.int .i64 0,.int .i64 0,.int .i64 0,.int .i64 0,.slice none 0 0] 39 (0,0))):=(k6 _ (by omega)).trans r4;have HG6:Hid (W6.heap[w.heap.size+2]?=some (.cells (vdC 2 0 0 (.slice none 0 0)) 39 (0,0))):=(k6 _ (by omega)).trans g4;have HM6:Hid (W6.heap[w.heap.size+3]?=some (.cells #[.slice va m.vars.length vp,.slice none 0 0,.bool m.has,.slice ga m.goal.length gp] 26 (0,0))):=g6;have HB6:Hid (Below w.heap.size w W6):=b6;have HZ6:Hid (W6.heap.size=w.heap.size+4):=z6;have hS:=callsIn_wide (n:=4) |>.2 (Zo m _ _ _ W6 (h.below b6));have HMo:Hid (∀ W,Below w.heap.size w W->MoAt W (Md.goalOf m) (.slice va m.vars.length vp) (.slice none 0 0) (.slice ga m.goal.length gp)):=fun W hb=>y1E (h.below hb)
  unfold yp at hS ⊢;have p0:=yb m4 0;have p1:=yb m4 1;have p2:=yb m4 2;have p3:=yb m4 3;dsimp at p0 p1 p2 p3;have q0:=yb m6 0;have q1:=yb m6 1;have q2:=yb m6 2;have q3:=yb m6 3;dsimp at q0 q1 q2 q3;have u0:=yb g3 0;have u1:=yb g3 1;have u2:=yb g3 2;have u3:=yb g3 3;have u4:=yb g3 4;dsimp at u0 u1 u2 u3 u4;have x0:=yb g5 0;have x1:=yb g5 1;have x2:=yb g5 2;have x3:=yb g5 3;dsimp at x0 x1 x2 x3;have uf0:=yl g3 0;have uf1:=yl g3 1;have uf2:=yl g3 2;have uf3:=yl g3 3;have uf4:=yl g3 4;have xf0:=yl g5 0;have xf1:=yl g5 1;have xf2:=yl g5 2;have xf3:=yl g5 3;clear h g1 b1 g2 b2 m2 g3 b3 m3 r3 g4 b4 m4 r4 g5 b5 k5 g6 b6 k6 m6
  refine callsIn_of_wp_marks Tryz.func34 rfl trivial ?_ rfl;simp only [Tryz.ntmps34,List.size_toArray,List.length_cons,List.length_nil,Nat.reduceAdd,Nat.reduceSub,Array.replicate_succ,Array.replicate_zero,List.push_toArray,List.append_toArray,List.nil_append,List.cons_append]
  gi_wp2_with (refine ⟨trivial,?_⟩;gi_at_call 10;refine hS.mono ?_;rintro e w3 ⟨gf,lb,rfl,hen,hb3,hsq⟩)
  clear hS p0 p1 p2 p3 q0 q1 q2 q3 u0 u1 u2 u3 u4 x0 x1 x2 x3 uf0 uf1 uf2 uf3 uf4 xf0 xf1 xf2 xf3 hW1 hW2 hW3 hW4 hW5 hW6;have hz6:=HZ6.out;have HB3:Hid (Below w.heap.size w w3):=HB6.out.trans (hb3.mono (by omega));have HR3:Hid (w3.heap[w.heap.size+1]?=some (.cells #[.int .i64 0,.int .i64 0,.int .i64 0,.int .i64 0,.slice none 0 0] 39 (0,0))):=(hb3.block _ (by omega)).trans HR6.out;have HG3:Hid (w3.heap[w.heap.size+2]?=some (.cells (vdC 2 0 0 (.slice none 0 0)) 39 (0,0))):=(hb3.block _ (by omega)).trans HG6.out;have HM3:Hid (w3.heap[w.heap.size+3]?=some (.cells #[.slice va m.vars.length vp,.slice none 0 0,.bool m.has,.slice ga m.goal.length gp] 26 (0,0))):=(hb3.block _ (by omega)).trans HM6.out;have hs3:w.heap.size+4<=w3.heap.size:=by have:=hb3.size;omega
  clear hb3 HR6 HG6 HM6 HB6;refine Yg (α:=List Int) rfl (by decide) (gf:=gf) (lb:=lb) rfl trivial hen (Y:=YsAt (w3.heap.size+2+5)) (U:=fun k=>w3.heap.size+2<=k/\k<w3.heap.size+2+5) (T:=fun k=>(W6.heap.size<=k/\k<w3.heap.size)∨(w3.heap.size+2<=k/\k<w3.heap.size+2+5)) (M:=w3.heap.size+2+5) (fun k hk=>.inr hk) (xs:=yt m) (fun k hk=>by omega)
    (fun W hb hsz=>by
      have:=hsq 4 W (by decide) (by omega) fun k h1 h2=>hb.block k (by omega)
      rw [hsz] at this
      exact this) (fun x vs W h=>by obtain ⟨v,rfl,_⟩:=h;rfl)
    (fun x vs W k o rec h hl=>Zn h hl)
    (fun pre W=>W.heap[w.heap.size+1]?=some (.cells #[.int .i64 0,.int .i64 0,.int .i64 0,.int .i64 0,.slice none 0 0] 39 (0,0))/\BsAt (bst m pre) (w.heap.size+2) (w3.heap.size+2+5) W/\W.heap[w.heap.size+3]?=some (.cells #[.slice va m.vars.length vp,.slice none 0 0,.bool m.has,.slice ga m.goal.length gp] 26 (0,0))/\Below w.heap.size w W/\w3.heap.size<=W.heap.size)
    (fun _ _=>False)
    (fun pre A B hs ho=>⟨(ho.block _ (hLt hs.1) (by omega)).trans hs.1,hs.2.1.keep (ho.block _ (by have:=hs.2.2.2.2;omega) (by omega)) (fun k h1 h2=>ho.block k h2 (by omega)),(ho.block _ (by have:=hs.2.2.2.2;omega) (by omega)).trans hs.2.2.1,hs.2.2.2.1.trans (ho.below (fun k hk=>by omega) (by have:=hs.2.2.2.2;omega)),Nat.le_trans hs.2.2.2.2 ho.size⟩)
    (fun _ _ _ h _=>h)
    ⟨HR3.out,HG3.out,HM3.out,HB3.out,Nat.le_refl _⟩
    (fun vs=>{ tmps:=#[.agg #[.slice va m.vars.length vp,.slice ca m.cons.length cp,.bool m.has,.slice ga m.goal.length gp],.pointer (some ⟨w.heap.size,0,none⟩),.pointer (some ⟨w.heap.size+1,0,none⟩),.pointer (some ⟨w.heap.size+2,0,none⟩),.pointer (some ⟨w.heap.size+3,0,none⟩),vs.getD 0 undef,undef,.agg #[.int .i64 2,.int .i64 0,.int .i64 0,.int .i64 0,.slice none 0 0],.pointer (some ⟨w.heap.size,0,none⟩),.slice va m.vars.length vp,.pointer (some ⟨w.heap.size,2,none⟩),.bool m.has,.pointer (some ⟨w.heap.size,3,none⟩),.slice ga m.goal.length gp,.agg #[.slice va m.vars.length vp,.slice none 0 0,.bool m.has,.slice ga m.goal.length gp],.agg #[.slice va m.vars.length vp,.slice ca m.cons.length cp,.bool m.has,.slice ga m.goal.length gp],.func (.func gf) #[] lb,vs.getD 0 undef,undef,undef,undef,undef,undef,undef,undef,undef,undef,undef,undef,undef,undef,undef,undef,undef],defers:=[] }) ?assign ?body ?done ?stop
  case assign=>
    rintro l' x vs W K ⟨v,rfl,_⟩ hK
    gi_wp2
    simpa using hK
  case body=>
    rintro l' pre x post vs W hx ⟨hr,hbs,hmg,hbW,hsW⟩ hM hsz ⟨v,rfl,how⟩;obtain ⟨ya,yc,rfl⟩:∃ ya yc,v=.slice ya x.length yc:=by
      rcases how.2 with ⟨rfl,h0⟩ | ⟨g',cap,cur,rfl,_⟩
      · exact ⟨none,0,by rw [h0]⟩
      · exact ⟨_,_,rfl⟩
    simp only [Array.getD_eq_getD_getElem?,List.getElem?_toArray,List.getElem?_cons_zero,Option.getD_some];have hWo:=Zj (Md.goalOf m) _ _ _ _ x W (HMo.out W hbW) (Yf how);obtain ⟨X,hX⟩:∃ X,Md.worth (Md.goalOf m) x=X:=⟨_,rfl⟩;rw [hX] at hWo;have HX:Hid (Md.worth (Md.goalOf m) x=X):=hX;unfold yp Md.goalOf at hWo;have HOw:Hid (W.ownsRow (w3.heap.size+2+5) 3 1 (.slice ya x.length yc) x.length (x.map (.int .i64))):=how;have HbW:Hid (Below w.heap.size w W):=hbW;have HR:Hid (W.heap[w.heap.size+1]?=some (.cells #[.int .i64 0,.int .i64 0,.int .i64 0,.int .i64 0,.slice none 0 0] 39 (0,0))):=hr;have HM:Hid (W.heap[w.heap.size+3]?=some (.cells #[.slice va m.vars.length vp,.slice none 0 0,.bool m.has,.slice ga m.goal.length gp] 26 (0,0))):=hmg;have y0:=yb hmg 0;have y1:=yb hmg 1;have y2:=yb hmg 2
    have y3:=yb hmg 3;dsimp at y0 y1 y2 y3
    have hNx:Hid (∀ w1 W',Below W.heap.size W w1->(W'=w1∨∃ a0 a1 a2 a3 a4,W'=(((((w1.setCell ⟨w.heap.size+2,0,none⟩ a0).setCell ⟨w.heap.size+2,1,none⟩ a1).setCell ⟨w.heap.size+2,2,none⟩ a2).setCell ⟨w.heap.size+2,3,none⟩ a3).setCell ⟨w.heap.size+2,4,none⟩ a4))->W'.heap[w.heap.size+1]?=some (.cells #[.int .i64 0,.int .i64 0,.int .i64 0,.int .i64 0,.slice none 0 0] 39 (0,0))/\W'.heap[w.heap.size+3]?=some (.cells #[.slice va m.vars.length vp,.slice none 0 0,.bool m.has,.slice ga m.goal.length gp] 26 (0,0))/\Below w.heap.size w W'/\w3.heap.size<=W'.heap.size/\W'.ownsRow (w3.heap.size+2+5) 3 1 (.slice ya x.length yc) x.length (x.map (.int .i64))/\W.heap.size<=W'.heap.size/\∀ k,(((W6.heap.size<=k/\k<w3.heap.size)∨(w3.heap.size+2<=k/\k<w3.heap.size+2+5))∨k=w3.heap.size∨k=w3.heap.size+1)->W'.heap[k]?=W.heap[k]?):=by
      intro w1 W' hb1 hW';have hk:∀ k,k<W.heap.size->k≠w.heap.size+2->W'.heap[k]?=W.heap[k]?:=by
        intro k hk1 hk2;rcases hW' with rfl | ⟨a0,a1,a2,a3,a4,rfl⟩
        · exact hb1.block k hk1
        · exact (zN _ _ _ _ _ _ _ _ hk2).trans (hb1.block k hk1)
      have hsz':W'.heap.size=w1.heap.size:=by
        rcases hW' with rfl | ⟨a0,a1,a2,a3,a4,rfl⟩
        · rfl
        · simp
      have hbb:Below w.heap.size w W':=by
        have h1:Below w.heap.size w w1:=hbW.trans (hb1.mono (by omega));rcases hW' with rfl | ⟨a0,a1,a2,a3,a4,rfl⟩
        · exact h1
        · exact zM h1 _ (by omega) _ _ _ _ _
      have:=hb1.size;exact ⟨(hk _ (by omega) (by omega)).trans hr,(hk _ (by omega) (by omega)).trans hmg,hbb,by omega,yN how fun g hg=>hk g (zO how hg).2 (by have:=(zO how hg).1;omega),by omega,fun k hk1=>hk k (by omega) (by omega)⟩
    clear how hbW hr hmg hX hx
    cases hb:bst m pre with
    | none =>
      rw [hb] at hbs;have HBs:Hid (W.heap[w.heap.size+2]?=some (.cells (vdC 2 0 0 (.slice none 0 0)) 39 (0,0))):=hbs;have HE:Hid (bst m (pre++[x])=some (X,x)):=by show _=_;rw [XW,hb];unfold bstS;rw [HX.out]
      clear hbs hb
      gi_wp2_with (refine ⟨trivial,?_⟩;gi_at_call 17;refine (zy hWo).mono ?_;rintro e w1 ⟨rfl,hb1⟩;have HB1:Hid (Below W.heap.size W w1):=hb1;have hbx:=(hb1.block (w.heap.size+2) (by omega)).trans HBs.out;have HBx:Hid (w1.heap[w.heap.size+2]?=some (.cells (vdC 2 0 0 (.slice none 0 0)) 39 (0,0))):=hbx;have d0:=yb hbx 0;have d1:=yb hbx 1;have d2:=yb hbx 2;have d3:=yb hbx 3;have d4:=yb hbx 4;have e0:=yl hbx 0;have e1:=yl hbx 1;have e2:=yl hbx 2;have e3:=yl hbx 3;have e4:=yl hbx 4;dsimp [vdC] at d0 d1 d2 d3 d4;clear hb1 hbx)
      obtain ⟨n1,n2,n3,n4,n5,n6,n7⟩:=hNx.out w1 _ HB1.out (.inr ⟨.int .i64 4,.int .i64 0,.int .i64 X,.int .i64 0,.slice ya x.length yc,rfl⟩);have nb:=zE HBx.out (.int .i64 4) (.int .i64 0) (.int .i64 X) (.int .i64 0) (.slice ya x.length yc);rw [HE.out];simp only [World.size_setCell] at n4 n6;rw [HZ6.out] at n7
      first
        | exact ⟨⟨n1,⟨_,nb,n5⟩,n2,n3,n4⟩,n6,n7⟩
        | exact ⟨⟨n1,⟨_,nb,n5⟩,n2,n3⟩,n6,n7⟩
        | exact ⟨⟨n1,⟨_,nb,n5⟩,n2,n3,n4⟩,n7⟩
    | some by_ =>
      obtain ⟨b,y⟩:=by_;rw [hb] at hbs;obtain ⟨u,hbu,huo⟩:=hbs;obtain ⟨ua,uc,rfl⟩:∃ ua uc,u=.slice ua y.length uc:=by
        rcases huo.2 with ⟨rfl,h0⟩ | ⟨g',cap,cur,rfl,_⟩
        · exact ⟨none,0,by rw [h0]⟩
        · exact ⟨_,_,rfl⟩
      have HBs:Hid (W.heap[w.heap.size+2]?=some (.cells (vdC 4 b 0 (.slice ua y.length uc)) 39 (0,0))):=hbu;have HUo:Hid (W.ownsRow (w3.heap.size+2+5) 3 1 (.slice ua y.length uc) y.length (y.map (.int .i64))):=huo;have HE:Hid (bst m (pre++[x])=if X<b then some (X,x) else some (b,y)):=by show _=_;rw [XW,hb];unfold bstS;rw [HX.out]
      clear hbu huo hb
      by_cases hlt:X<b
      · gi_wp2_with (refine ⟨trivial,?_⟩;gi_at_call 17;refine (zy hWo).mono ?_;rintro e w1 ⟨rfl,hb1⟩;have HB1:Hid (Below W.heap.size W w1):=hb1;have hbx:=(hb1.block (w.heap.size+2) (by omega)).trans HBs.out;have HBx:Hid (w1.heap[w.heap.size+2]?=some (.cells (vdC 4 b 0 (.slice ua y.length uc)) 39 (0,0))):=hbx;have d0:=yb hbx 0;have d1:=yb hbx 1;have d2:=yb hbx 2;have d3:=yb hbx 3;have d4:=yb hbx 4;have e0:=yl hbx 0;have e1:=yl hbx 1;have e2:=yl hbx 2;have e3:=yl hbx 3;have e4:=yl hbx 4;dsimp [vdC] at d0 d1 d2 d3 d4;clear hb1 hbx)
        obtain ⟨n1,n2,n3,n4,n5,n6,n7⟩:=hNx.out w1 _ HB1.out (.inr ⟨.int .i64 4,.int .i64 0,.int .i64 X,.int .i64 0,.slice ya x.length yc,rfl⟩);have nb:=zE HBx.out (.int .i64 4) (.int .i64 0) (.int .i64 X) (.int .i64 0) (.slice ya x.length yc);rw [HE.out,if_pos hlt];simp only [World.size_setCell] at n4 n6;rw [HZ6.out] at n7
        first
          | exact ⟨⟨n1,⟨_,nb,n5⟩,n2,n3,n4⟩,n6,n7⟩
          | exact ⟨⟨n1,⟨_,nb,n5⟩,n2,n3⟩,n6,n7⟩
          | exact ⟨⟨n1,⟨_,nb,n5⟩,n2,n3,n4⟩,n7⟩
      · gi_wp2_with (refine ⟨trivial,?_⟩;gi_at_call 17;refine (zy hWo).mono ?_;rintro e w1 ⟨rfl,hb1⟩;have HB1:Hid (Below W.heap.size W w1):=hb1;have hbx:=(hb1.block (w.heap.size+2) (by omega)).trans HBs.out;have HBx:Hid (w1.heap[w.heap.size+2]?=some (.cells (vdC 4 b 0 (.slice ua y.length uc)) 39 (0,0))):=hbx;have d0:=yb hbx 0;have d2:=yb hbx 2;dsimp [vdC] at d0 d2;clear hb1 hbx)
        obtain ⟨n1,n2,n3,n4,n5,n6,n7⟩:=hNx.out w1 w1 HB1.out (.inl rfl);rw [HE.out,if_neg (by omega)];rw [HZ6.out] at n7;have nu:=yN HUo.out fun g hg=>HB1.out.block g (zO HUo.out hg).2
        first
          | exact ⟨⟨n1,⟨_,HBx.out,nu⟩,n2,n3,n4⟩,n6,n7⟩
          | exact ⟨⟨n1,⟨_,HBx.out,nu⟩,n2,n3⟩,n6,n7⟩
          | exact ⟨⟨n1,⟨_,HBx.out,nu⟩,n2,n3,n4⟩,n7⟩
  case done=>
    rintro W ⟨hr,hbs,hmg,hbW,hsW⟩ hK;have HbW:Hid (Below w.heap.size w W):=hbW;have HR:Hid (W.heap[w.heap.size+1]?=some (.cells #[.int .i64 0,.int .i64 0,.int .i64 0,.int .i64 0,.slice none 0 0] 39 (0,0))):=hr;have HK:Hid (W.heap[w3.heap.size]?=some (.deferred (some []))):=hK;have r0:=yb hr 0;have r1:=yb hr 1;have r2:=yb hr 2;have r3:=yb hr 3;have r4:=yb hr 4;have f0:=yl hr 0;have f1:=yl hr 1;have f2:=yl hr 2;have f3:=yl hr 3;have f4:=yl hr 4;dsimp at r0 r1 r2 r3 r4;have e3:=(hLt hK)
    cases hb:bst m (yt m) with
    | none =>
      rw [hb] at hbs;have hbs':W.heap[w.heap.size+2]?=some (.cells (vdC 2 0 0 (.slice none 0 0)) 39 (0,0)):=hbs;have d0:=yb hbs' 0;have d1:=yb hbs' 1;have d2:=yb hbs' 2;have d3:=yb hbs' 3;have d4:=yb hbs' 4;dsimp [vdC] at d0 d1 d2 d3 d4;have HE:Hid (bst m (yt m)=none):=hb;clear hr hbs hbs' hmg hbW hK hb
      gi_wp2
      have HK1:=(zN W (w.heap.size+1) (.int .i64 2) (.int .i64 0) (.int .i64 0) (.int .i64 0) (.slice none 0 0) w3.heap.size (by omega)).trans HK.out;have hg5:=zE HR.out (.int .i64 2) (.int .i64 0) (.int .i64 0) (.int .i64 0) (.slice none 0 0);have hb5:=zM HbW.out (w.heap.size+1) (by omega) (.int .i64 2) (.int .i64 0) (.int .i64 0) (.int .i64 0) (.slice none 0 0);refine ⟨by simp,.inl ⟨_,_,rfl,run_takeDeferred HK1,?_⟩⟩;refine ⟨.agg (vdC 2 0 0 (.slice none 0 0)),results_cell_row Tryz.results34 _ _ (w.heap.size+1) 39 (vdC 2 0 0 (.slice none 0 0)) (0,0) _ rfl ((World.putObj_heap_other (by omega)).trans hg5) Tryz.underlying39 rfl infV,?_⟩;refine ⟨hb5.trans ((yW (S:=fun k=>w.heap.size<=k) _ _ _ (by omega)).below (fun k hk=>hk) hb5.size),?_⟩;rw [HE.out]
    | some by_ =>
      obtain ⟨b,y⟩:=by_;rw [hb] at hbs;obtain ⟨u,hbu,huo⟩:=hbs;obtain ⟨ua,uc,rfl⟩:∃ ua uc,u=.slice ua y.length uc:=by
        rcases huo.2 with ⟨rfl,h0⟩ | ⟨g',cap,cur,rfl,_⟩
        · exact ⟨none,0,by rw [h0]⟩
        · exact ⟨_,_,rfl⟩
      have HUo:Hid (W.ownsRow (w3.heap.size+2+5) 3 1 (.slice ua y.length uc) y.length (y.map (.int .i64))):=huo;have d0:=yb hbu 0;have d1:=yb hbu 1;have d2:=yb hbu 2;have d3:=yb hbu 3;have d4:=yb hbu 4;dsimp [vdC] at d0 d1 d2 d3 d4;have HE:Hid (bst m (yt m)=some (b,y)):=hb;clear hr hbu huo hmg hbW hK hb
      gi_wp2
      have HK1:=(zN W (w.heap.size+1) (.int .i64 4) (.int .i64 0) (.int .i64 b) (.int .i64 0) (.slice ua y.length uc) w3.heap.size (by omega)).trans HK.out;have hg5:=zE HR.out (.int .i64 4) (.int .i64 0) (.int .i64 b) (.int .i64 0) (.slice ua y.length uc);have hb5:=zM HbW.out (w.heap.size+1) (by omega) (.int .i64 4) (.int .i64 0) (.int .i64 b) (.int .i64 0) (.slice ua y.length uc);refine ⟨by simp,.inl ⟨_,_,rfl,run_takeDeferred HK1,?_⟩⟩;refine ⟨.agg (vdC 4 b 0 (.slice ua y.length uc)),results_cell_row Tryz.results34 _ _ (w.heap.size+1) 39 (vdC 4 b 0 (.slice ua y.length uc)) (0,0) _ rfl ((World.putObj_heap_other (by omega)).trans hg5) Tryz.underlying39 rfl infV,?_⟩;refine ⟨hb5.trans ((yW (S:=fun k=>w.heap.size<=k) _ _ _ (by omega)).below (fun k hk=>hk) hb5.size),?_⟩;rw [HE.out]
      refine ⟨_,w3.heap.size+2+5,rfl,by omega,yN HUo.out fun g hg=>?_⟩;have:=(zO HUo.out hg).1;exact (World.putObj_heap_other (by omega)).trans (zN W (w.heap.size+1) _ _ _ _ _ g (by omega))
  case stop=>exact fun _ _ _ _ _ h _=>h.elim
end Go.Proofs.YtjgghimjnbjlbaaGreatDoor
