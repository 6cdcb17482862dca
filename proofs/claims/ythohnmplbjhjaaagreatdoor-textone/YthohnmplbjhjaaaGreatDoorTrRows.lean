import Derived.Test.YthohnmplbjhjaaaGreatDoorQs
import Derived.Test.YthohnmplbjhjaaaGreatDoorJ30
namespace Go.Proofs.YthohnmplbjhjaaaGreatDoor
open Go Go.RowKit Go.Shelf Go.Lib
attribute [local go_sem] Oper.semAt_some
theorem zz {w:World} {B B':Nat} {e:TypeId} {size:Nat} {v:Value} {n:Nat} {xs:List Value} (h:w.ownsRow B e size v n xs) (hB:B'<=B):w.ownsRow B' e size v n xs:=by
 refine ⟨h.1,?_⟩
 rcases h.2 with h1 | ⟨g,cap,cur,hv,hg,h2⟩
 ·exact .inl h1
 ·exact .inr ⟨g,cap,cur,hv,Nat.le_trans hB hg,h2⟩
def RowW (w:World) (B D:Nat) (v:Value) (r:List Int):Prop:=w.ownsRow B 3 1 v r.length (encL encI r)/\∀ g,v.ownBlock=some g->g≠D/\g≠D+1
def RowsW (w:World) (B D:Nat) (vs:List Value) (rs:List (List Int)):Prop:=vs.length=rs.length/\∀ (j:Nat) (u:Value) (r:List Int),vs[j]?=some u->rs[j]?=some r->RowW w B D u r
theorem RowsW.keep {S:Nat->Prop} {w w':World} {B D:Nat} {vs:List Value} {rs:List (List Int)} (h:RowsW w B D vs rs) (ho:Ofw S w w') (hS:∀ k,S k->(k=D∨k=D+1)∨∀ c,w.heap[k]?≠some (.cells c 3 (0,0))):RowsW w' B D vs rs:=by
 refine ⟨h.1,fun j u r hu hr=>?_⟩
 obtain ⟨h1,h2⟩:=h.2 j u r hu hr
 refine ⟨yC h1 (fun g hg e=>?_) ho,h2⟩
 rcases hS g e with h3 | h3
 ·have:=h2 g hg;omega
 ·obtain ⟨_,cur,hc⟩:=yn h1 hg
  exact h3 cur hc
theorem RowsW.one {w:World} {B D:Nat} {v:Value} {r:List Int} (h:RowW w B D v r):RowsW w B D [v] [r]:=by
 refine ⟨rfl,fun j u r' hu hr=>?_⟩
 cases j with
 | zero=>simp at hu hr;subst hu;subst hr;exact h
 | succ j=>simp at hu
theorem RowsW.snoc {w:World} {B D:Nat} {vs:List Value} {rs:List (List Int)} {v:Value} {r:List Int} (h:RowsW w B D vs rs) (h1:RowW w B D v r):RowsW w B D (vs++[v]) (rs++[r]):=by
 refine ⟨by simp [h.1],fun j u r' hu hr=>?_⟩
 have hl:=h.1
 by_cases hj:j<vs.length
 ·rw [List.getElem?_append_left hj] at hu
  rw [List.getElem?_append_left (by omega)] at hr
  exact h.2 j u r' hu hr
 ·rw [List.getElem?_append_right (by omega)] at hu hr
  rw [<-hl] at hr
  obtain ⟨i,hi⟩:∃ i,j-vs.length=i:=⟨_,rfl⟩
  rw [hi] at hu hr
  cases i with
  | zero=>simp at hu hr;subst hu;subst hr;exact h1
  | succ i=>simp at hu
def RRo (w0:World) (V:List Md.Vr) (va:Value) (b:Nat) (rs:List (List Int)) (s':St) (w:World) (e:Ending) (w':World):Prop:=∃ v vs D,e=.returned v/\Ln w0 V va b s' w'/\Ofw (fun k=>k=b) w w'/\w'.ownsRow w.heap.size 58 1 v rs.length vs/\RowsW w' w.heap.size D vs rs
theorem xM {s:St} (h:s.2≠0):ye s=([],s):=by unfold ye;rw [xr h];simp [xU h]
theorem Zj {x:List UInt8} {s:St} (h:s.2≠0):(ym x s).2=s:=by unfold ym;simp only;split;rfl;exact xU h
theorem Xa {x:List UInt8} {s:St} (h:s.2≠0):(yO x s).2=s:=by
 unfold yO
 simp only [Zj h]
 split
 ·exact xU h
 ·rfl
theorem YV {s:St} (h:s.2≠0):(yK s).2=s:=by unfold yK;rw [xM h];exact Xa h
theorem Kg:∀ (k:Nat) (row:List Int) (s:St),s.2≠0->(zn k row s).2=s
 | 0,_,_,_=>rfl
 | k+1,row,s,h=>by unfold zn;rw [YV h];exact Kg k _ s h
theorem X9 {n:Nat} {x:List UInt8} {s:St} (h:s.2≠0):(yV n x s).2=s:=by unfold yV;rw [Xa h];exact Kg _ _ _ h
theorem YB (s:St):(yK s).2.1.length<=s.1.length:=by
 unfold yK
 rw [show (yO (ye s).1 (ye s).2).2.1=(ye s).2.1 from Zm _ _]
 exact (zY (Nat.le_refl _)).2
theorem Kh:∀ (k:Nat) (row:List Int) (s:St),(zn k row s).2.1.length<=s.1.length
 | 0,_,_=>Nat.le_refl _
 | k+1,row,s=>by unfold zn;exact Nat.le_trans (Kh k _ _) (YB s)
theorem YX (n:Nat) (x:List UInt8) (s:St):(yV n x s).2.1.length<=s.1.length:=by
 unfold yV
 refine Nat.le_trans (Kh _ _ _) ?_
 rw [show (yO x s).2.1=s.1 from Zm _ _]
 exact Nat.le_refl _
theorem Zn (x y:List UInt8) (s:St):(zt x y s).1=s.1:=by unfold zt;split;rfl;exact yU _ _
set_option maxRecDepth 100000 in
set_option maxHeartbeats 4000000 in
theorem y4G {w0:World} {V:List Md.Vr} {va:Value} {b:Nat} {s:St} (n:Nat) (hn:n<=1000) (w:World) (h:Ln w0 V va b s w):Calls Tryz.prog 135 #[.pointer (some ⟨b,0,none⟩),.int .i64 n] w (RRo w0 V va b (zX n s).1 (zX n s).2 w):=by
  have HI:Hid (∀ (t:St) (x:List UInt8) w',Ln w0 V va b t w'->x.length<=70000->Calls Tryz.prog 170 #[.pointer (some ⟨b,0,none⟩),.string (yc x),.int .i64 n] w' (RL w0 V va b 3 1 (yV n x t).1.length (encL encI (yV n x t).1) (yV n x t).2 w')):=fun t x w' h' hx=>y4O n x w' h' hx hn
  have HNx:Hid (∀ (t:St) w',Ln w0 V va b t w'->Calls Tryz.prog 124 #[.pointer (some ⟨b,0,none⟩)] w' (RO w0 V va b (.string (yc (ye t).1)) (ye t).2 w')):=fun t w' h'=>xu w' h'
  have HMu:Hid (∀ (t:St) (x:List UInt8) w',Ln w0 V va b t w'->Calls Tryz.prog 133 #[.pointer (some ⟨b,0,none⟩),.string (yc x),.string (yc [58])] w' (RO w0 V va b (.tuple #[]) (zt x [58] t) w')):=fun t x w' h'=>QY x [58] w' h'
  have HN:Hid (∀ w',Ln w0 V va b s w'->Calls Tryz.prog 124 #[.pointer (some ⟨b,0,none⟩)] w' (RO w0 V va b (.string (yc (ye s).1)) (ye s).2 w')):=fun w' h'=>xu w' h'
  have HXl:Hid ((ye s).1.length<=70000):=(zY h.n).1
  obtain ⟨x0,hx0⟩:∃ x,(ye s).1=x:=⟨_,rfl⟩
  obtain ⟨t0,ht0⟩:∃ t,(ye s).2=t:=⟨_,rfl⟩
  obtain ⟨a0,ha0⟩:∃ a,(yV n x0 t0).1=a:=⟨_,rfl⟩
  obtain ⟨t1,ht1⟩:∃ t,(yV n x0 t0).2=t:=⟨_,rfl⟩
  obtain ⟨RR,hRR⟩:∃ RR,zd n 63 [a0] t1=RR:=⟨_,rfl⟩
  have he:zX n s=RR:=by unfold zX;rw [hx0,ht0,ha0,ht1,hRR]
  have HRR:Hid (zd n 63 [a0] t1=RR):=hRR
  rw [he]
  rw [hx0,ht0] at HN
  rw [hx0] at HXl
  have HI0:Hid (∀ w',Ln w0 V va b t0 w'->Calls Tryz.prog 170 #[.pointer (some ⟨b,0,none⟩),.string (yc x0),.int .i64 n] w' (RL w0 V va b 3 1 a0.length (encL encI a0) t1 w')):=fun w' h'=>by
    have:=HI.out t0 x0 w' h' HXl.out
    rw [ha0,ht1] at this
    exact this
  clear hx0 ht0 ha0 ht1 hRR he
  refine (callsIn_wide (n:=5)).1 ?_
  obtain ⟨W1,hW1⟩:∃ W1,w.alloc (.cells #[.pointer (some ⟨b,0,none⟩)] 113)=W1:=⟨_,rfl⟩
  obtain ⟨W2,hW2⟩:∃ W2,W1.alloc (.cells #[.int .i64 n] 3)=W2:=⟨_,rfl⟩
  have hb1:Below w.heap.size w W1:=hW1▸(Below.refl _ _).alloc (Nat.le_refl _) _
  have hs1:W1.heap.size=w.heap.size+1:=by rw [<-hW1];simp
  have hb2:Below W1.heap.size W1 W2:=hW2▸(Below.refl _ _).alloc (Nat.le_refl _) _
  have hs2:W2.heap.size=w.heap.size+2:=by rw [<-hW2];simp [hs1]
  have hbw:Below w.heap.size w W2:=hb1.trans (hb2.mono hb1.size)
  have hp2:W2.heap[w.heap.size]?=some (.cells #[.pointer (some ⟨b,0,none⟩)] 113):=(hb2.block _ (by omega)).trans (hW1▸World.alloc_heap_new w _)
  have hq2:W2.heap[w.heap.size+1]?=some (.cells #[.int .i64 n] 3):=by rw [<-hs1,<-hW2];exact World.alloc_heap_new W1 _
  have hlt:=h.lt
  have hbg:=h.big
  have HBX:Hid (∀ w',Ofw (fun k=>k=b) W2 w'->w'.heap[w.heap.size]?=some (.cells #[.pointer (some ⟨b,0,none⟩)] 113)/\w'.heap[w.heap.size+1]?=some (.cells #[.int .i64 n] 3)/\Ofw (fun k=>k=b) w w'/\w.heap.size+2<=w'.heap.size):=fun w' ho=>
    ⟨(ho.block _ (Array.getElem?_eq_some_iff.1 hp2).1 (by omega)).trans hp2,(ho.block _ (Array.getElem?_eq_some_iff.1 hq2).1 (by omega)).trans hq2,(Ofw.of_below hbw).trans ho,by have:=ho.size;omega⟩
  have HL2:Hid (Ln w0 V va b s W2):=h.below hbw
  have hm:Tryz.prog.follows .mixedOrders=true:=by kernel_rfl
  refine callsIn_of_wp_marks Tryz.func135 rfl trivial ?_ rfl
  simp only [Tryz.ntmps135,List.size_toArray,List.length_cons,List.length_nil,Nat.reduceAdd,Nat.reduceSub,Array.replicate_succ,Array.replicate_zero,List.push_toArray,List.append_toArray,List.nil_append,List.cons_append]
  gi_wp2
  gi_cut [5] from 8 (fun tv wx=>∃ A,tv=.pointer (some ⟨A,0,none⟩)/\Hid (w.heap.size+2<=A/\A<wx.heap.size/\Ln w0 V va b t1 wx/\Ofw (fun k=>k=b) W2 wx/\∃ g vr,wx.heap[A]?=some (.cells #[.slice (some ⟨g,0,none⟩) 1 1] 59)/\w.heap.size+2<=g/\wx.heap[g]?=some (.cells #[vr] 58)/\wx.ownsRow w.heap.size 3 1 vr a0.length (encL encI a0)))
  case first=>
    refine zW (fun w'=>w'.cell? ⟨w.heap.size,0,none⟩=some (.pointer (some ⟨b,0,none⟩))/\w'.cell? ⟨w.heap.size+1,0,none⟩=some (.int .i64 n)) (fun _=>True) [] hm ⟨⟨?_,?_⟩,trivial⟩ (fun hHeld=>?_)
    · exact (by rw [yd hp2 0]:W2.cell? ⟨w.heap.size,0,none⟩=_)
    · exact (by rw [yd hq2 0]:W2.cell? ⟨w.heap.size+1,0,none⟩=_)
    refine yw (i:=0) (oi:=⟨some 8,.load 113 (.tmp 2),_,_,_,none⟩) (v:=?v0) rfl (by kernel_rfl) (by kernel_rfl) (by kernel_rfl) (by kernel_rfl) (by kernel_rfl) yt ⟨Or.inl ⟨by rfl,?h0⟩,fun _=>rfl,fun _ e=>by cases e⟩ (by assumption) ?r0
    case h0=>(intro w hSw;(try dsimp only at hSw);go_simp;try (with_reducible rfl))
    try simp only [Act.put,qa,qb,qc]
    refine yw (i:=1) (oi:=⟨some 9,.load 113 (.tmp 2),_,_,_,none⟩) (v:=?v1) rfl (by kernel_rfl) (by kernel_rfl) (by kernel_rfl) (by kernel_rfl) (by kernel_rfl) yt ⟨Or.inl ⟨by rfl,?h1⟩,fun _=>rfl,fun _ e=>by cases e⟩ (by assumption) ?r1
    case h1=>(intro w hSw;(try dsimp only at hSw);go_simp;try (with_reducible rfl))
    try simp only [Act.put,qa,qb,qc]
    refine yw (i:=3) (oi:=⟨some 11,.load 3 (.tmp 3),_,_,_,none⟩) (v:=?v3) rfl (by kernel_rfl) (by kernel_rfl) (by kernel_rfl) (by kernel_rfl) (by kernel_rfl) yt ⟨Or.inl ⟨by rfl,?h3⟩,fun _=>rfl,fun _ e=>by cases e⟩ (by assumption) ?r3
    case h3=>(intro w hSw;(try dsimp only at hSw);go_simp;try (with_reducible rfl))
    try simp only [Act.put,qa,qb,qc]
    have HS:Hid (∀ w',Ofw (fun k=>k=b) W2 w'->w'.cell? ⟨w.heap.size,0,none⟩=some (.pointer (some ⟨b,0,none⟩))/\w'.cell? ⟨w.heap.size+1,0,none⟩=some (.int .i64 n)):=fun w' ho=>by
      obtain ⟨p1,p2,_⟩:=HBX.out w' ho
      exact ⟨by rw [yd p1 0];rfl,by rw [yd p2 0];rfl⟩
    have fin:Hid (∀ (wq wf:World) (A X:Nat) (vr:Value),Ln w0 V va b t1 wq->Ofw (fun k=>k=b) W2 wq->w.heap.size+2<=A->w.heap.size+2<=X->wq.heap[A]?=some (.cells #[.slice none 0 0] 59)->wq.heap[X]?=some (.cells #[vr] 58)->wq.ownsRow w.heap.size 3 1 vr a0.length (encL encI a0)->wf=wq.setCell ⟨A,0,none⟩ (.slice (some ⟨X,0,none⟩) 1 1) ->
        Ofw (fun k=>k=b) W2 wf/\(w.heap.size+2<=A/\A<wf.heap.size/\Ln w0 V va b t1 wf/\Ofw (fun k=>k=b) W2 wf/\∃ g vr,wf.heap[A]?=some (.cells #[.slice (some ⟨g,0,none⟩) 1 1] 59)/\w.heap.size+2<=g/\wf.heap[g]?=some (.cells #[vr] 58)/\wf.ownsRow w.heap.size 3 1 vr a0.length (encL encI a0))):=fun wq wf A X vr hl ho hA hX cA cX hr e=>by
      have o6:Ofw (fun k=>k=A) wq wf:=e▸Ofw.set _ rfl
      have of:Ofw (fun k=>k=b) W2 wf:=ho.new o6 (fun i hi=>by omega)
      have hAX:X≠A:=fun e=>by rw [e,cA] at cX;injection cX with cX;injection cX with _ cX _;cases cX
      refine ⟨of,hA,Nat.lt_of_lt_of_le (Array.getElem?_eq_some_iff.1 cA).1 o6.size,hl.keep (fun k hk=>by omega) o6,of,X,vr,e▸yD cA 0 _,hX,(o6.block X (Array.getElem?_eq_some_iff.1 cX).1 hAX).trans cX,yC hr (fun g hg eg=>?_) o6⟩
      obtain ⟨_,cur,hc⟩:=yn hr hg
      have e':g=A:=eg
      rw [e',cA] at hc
      injection hc with hc
      injection hc with _ hc _
      cases hc
    obtain ⟨q0,hq0⟩:∃ q,W2.drew=q:=⟨_,rfl⟩
    have Lq0:Ln w0 V va b s q0:=hq0▸HL2.out.below (Below.refl _ _).drew
    have Oq0:Ofw (fun k=>k=b) W2 q0:=hq0▸Ofw.of_below (Below.refl _ _).drew
    rw [hq0]
    clear hHeld hW1 hW2 hb1 hb2 hbw hp2 hq2 hq0
    refine zZ (i:=2) (j:=6) (o:=⟨some 10,.call { callee:=.value (.func 124),args:=#[.tmp 9],argTypes:=#[113] },_,_,_,none⟩) (o':=⟨some 5,.alloc 59,_,_,_,none⟩) (by kernel_rfl) rfl rfl (fun K hK=>?_) (fun K hK=>?_)
    · go_simp
      gi_wp2_with (refine ⟨trivial,?_⟩;gi_at_call 124;refine (callsIn_wide.2 (HN.out _ Lq0)).mono ?_;rintro e q1 ⟨rfl,Lq1,oq1⟩)
      have Oq1:Ofw (fun k=>k=b) W2 q1:=Oq0.trans oq1
      have q1_S:=HS.out q1 Oq1
      refine hK.out _ _ ⟨q1_S,fun _=>trivial⟩ ?_
      clear hK K
      try simp only [Act.put,qa,qb,qc]
      refine zZ (i:=4) (j:=6) (o:=⟨some 12,.call { callee:=.value (.func 170),args:=#[.tmp 8,.tmp 10,.tmp 11],argTypes:=#[113,9,3] },_,_,_,none⟩) (o':=⟨some 5,.alloc 59,_,_,_,none⟩) (by kernel_rfl) rfl rfl (fun K hK=>?_) (fun K hK=>?_)
      · go_simp
        gi_wp2_with (refine ⟨trivial,?_⟩;gi_at_call 170;refine (callsIn_wide.2 (HI0.out _ Lq1)).mono ?_;rintro e q2 ⟨vr,rfl,Lq2,oq2,rq2'⟩;obtain ⟨ad,cp,hvr⟩:=yr rq2';subst hvr)
        have Oq2:Ofw (fun k=>k=b) W2 q2:=Oq1.trans oq2
        have nq2':=Oq1.size
        have rq2:=zz (B':=w.heap.size) rq2' (by omega)
        have q2_S:=HS.out q2 Oq2
        refine hK.out _ _ ⟨q2_S,fun _=>trivial⟩ ?_
        clear hK K
        try simp only [Act.put,qa,qb,qc]
        refine zZ (i:=5) (j:=6) (o:=⟨some 13,.buildSlice 59 1 #[(0,.tmp 12)],_,_,_,none⟩) (o':=⟨some 5,.alloc 59,_,_,_,none⟩) (by kernel_rfl) rfl rfl (fun K hK=>?_) (fun K hK=>?_)
        · obtain ⟨q3,eq3⟩:∃ V,q2.alloc (.cells #[.slice ad a0.length cp] 58)=V:=⟨_,rfl⟩
          have bq3:Below q2.heap.size q2 q3:=eq3▸(Below.refl _ _).alloc (Nat.le_refl _) _
          have Lq3:=Lq2.below bq3
          have Oq3:Ofw (fun k=>k=b) W2 q3:=Oq2.trans (Ofw.of_below bq3)
          have nq3:=Oq2.size
          have rq3:=yC (S:=fun _=>False) rq2 (fun _ _ f=>f) (Ofw.of_below bq3)
          have Xq3:q3.heap[q2.heap.size]?=some (.cells #[.slice ad a0.length cp] 58):=by rw [<-eq3];exact heap_alloc_new q2 _
          have gq3:=(Array.getElem?_eq_some_iff.1 Xq3).1
          go_simp
          try rw [eq3]
          obtain ⟨X,hX⟩:∃ X,q2.heap.size=X:=⟨_,rfl⟩
          rw [hX] at Xq3
          try rw [hX]
          clear eq3
          have q3_S:=HS.out q3 Oq3
          refine hK.out _ _ ⟨q3_S,fun _=>trivial⟩ ?_
          clear hK K
          try simp only [Act.put,qa,qb,qc]
          refine yo (i:=6) (o:=⟨some 5,.alloc 59,_,_,_,none⟩) (by kernel_rfl) rfl (fun K hK=>?_)
          obtain ⟨q4,eq4⟩:∃ V,q3.alloc (.cells #[.slice none 0 0] 59)=V:=⟨_,rfl⟩
          have bq4:Below q3.heap.size q3 q4:=eq4▸(Below.refl _ _).alloc (Nat.le_refl _) _
          have Lq4:=Lq3.below bq4
          have Oq4:Ofw (fun k=>k=b) W2 q4:=Oq3.trans (Ofw.of_below bq4)
          have nq4:=Oq3.size
          have rq4:=yC (S:=fun _=>False) rq3 (fun _ _ f=>f) (Ofw.of_below bq4)
          have Aq4:q4.heap[q3.heap.size]?=some (.cells #[.slice none 0 0] 59):=by rw [<-eq4];exact heap_alloc_new q3 _
          have Xq4:=(bq4.block _ (Array.getElem?_eq_some_iff.1 Xq3).1).trans Xq3
          have gq4:=(Array.getElem?_eq_some_iff.1 Aq4).1
          go_simp
          try rw [eq4]
          obtain ⟨A,hA⟩:∃ A,q3.heap.size=A:=⟨_,rfl⟩
          rw [hA] at Aq4
          try rw [hA]
          clear eq4
          have q4_S:=HS.out q4 Oq4
          refine hK.out _ _ ⟨q4_S,fun _=>trivial⟩ ?_
          clear hK K
          try simp only [Act.put,qa,qb,qc]
          have cA:=yd Aq4 0
          have zA:=yu Aq4 0
          refine yo (i:=7) (o:=⟨none,.store 59 (.tmp 5) (.tmp 13),_,_,_,none⟩) (by kernel_rfl) rfl (fun K hK=>?_)
          go_simp
          have hf:=fin.out q4 _ A X _ Lq4 Oq4 (by omega) (by omega) Aq4 Xq4 rq4 rfl
          refine hK.out _ _ ⟨HS.out _ hf.1,fun _=>trivial⟩ ?_
          clear hK K
          try simp only [Act.put,qa,qb,qc]
          refine yZ (by kernel_rfl) ⟨rfl,?_⟩ _
          gi_wp2
          gi_meet
          case rel=>exact ⟨A,rfl,hf.2⟩
        · obtain ⟨q3,eq3⟩:∃ V,q2.alloc (.cells #[.slice none 0 0] 59)=V:=⟨_,rfl⟩
          have bq3:Below q2.heap.size q2 q3:=eq3▸(Below.refl _ _).alloc (Nat.le_refl _) _
          have Lq3:=Lq2.below bq3
          have Oq3:Ofw (fun k=>k=b) W2 q3:=Oq2.trans (Ofw.of_below bq3)
          have nq3:=Oq2.size
          have rq3:=yC (S:=fun _=>False) rq2 (fun _ _ f=>f) (Ofw.of_below bq3)
          have Aq3:q3.heap[q2.heap.size]?=some (.cells #[.slice none 0 0] 59):=by rw [<-eq3];exact heap_alloc_new q2 _
          have gq3:=(Array.getElem?_eq_some_iff.1 Aq3).1
          go_simp
          try rw [eq3]
          obtain ⟨A,hA⟩:∃ A,q2.heap.size=A:=⟨_,rfl⟩
          rw [hA] at Aq3
          try rw [hA]
          clear eq3
          have q3_S:=HS.out q3 Oq3
          refine hK.out _ _ ⟨q3_S,fun _=>trivial⟩ ?_
          clear hK K
          try simp only [Act.put,qa,qb,qc]
          refine yo (i:=5) (o:=⟨some 13,.buildSlice 59 1 #[(0,.tmp 12)],_,_,_,none⟩) (by kernel_rfl) rfl (fun K hK=>?_)
          obtain ⟨q4,eq4⟩:∃ V,q3.alloc (.cells #[.slice ad a0.length cp] 58)=V:=⟨_,rfl⟩
          have bq4:Below q3.heap.size q3 q4:=eq4▸(Below.refl _ _).alloc (Nat.le_refl _) _
          have Lq4:=Lq3.below bq4
          have Oq4:Ofw (fun k=>k=b) W2 q4:=Oq3.trans (Ofw.of_below bq4)
          have nq4:=Oq3.size
          have rq4:=yC (S:=fun _=>False) rq3 (fun _ _ f=>f) (Ofw.of_below bq4)
          have Aq4:=(bq4.block _ (Array.getElem?_eq_some_iff.1 Aq3).1).trans Aq3
          have Xq4:q4.heap[q3.heap.size]?=some (.cells #[.slice ad a0.length cp] 58):=by rw [<-eq4];exact heap_alloc_new q3 _
          have gq4:=(Array.getElem?_eq_some_iff.1 Xq4).1
          go_simp
          try rw [eq4]
          obtain ⟨X,hX⟩:∃ X,q3.heap.size=X:=⟨_,rfl⟩
          rw [hX] at Xq4
          try rw [hX]
          clear eq4
          have q4_S:=HS.out q4 Oq4
          refine hK.out _ _ ⟨q4_S,fun _=>trivial⟩ ?_
          clear hK K
          try simp only [Act.put,qa,qb,qc]
          have cA:=yd Aq4 0
          have zA:=yu Aq4 0
          refine yo (i:=7) (o:=⟨none,.store 59 (.tmp 5) (.tmp 13),_,_,_,none⟩) (by kernel_rfl) rfl (fun K hK=>?_)
          go_simp
          have hf:=fin.out q4 _ A X _ Lq4 Oq4 (by omega) (by omega) Aq4 Xq4 rq4 rfl
          refine hK.out _ _ ⟨HS.out _ hf.1,fun _=>trivial⟩ ?_
          clear hK K
          try simp only [Act.put,qa,qb,qc]
          refine yZ (by kernel_rfl) ⟨rfl,?_⟩ _
          gi_wp2
          gi_meet
          case rel=>exact ⟨A,rfl,hf.2⟩
      · obtain ⟨q2,eq2⟩:∃ V,q1.alloc (.cells #[.slice none 0 0] 59)=V:=⟨_,rfl⟩
        have bq2:Below q1.heap.size q1 q2:=eq2▸(Below.refl _ _).alloc (Nat.le_refl _) _
        have Lq2:=Lq1.below bq2
        have Oq2:Ofw (fun k=>k=b) W2 q2:=Oq1.trans (Ofw.of_below bq2)
        have nq2:=Oq1.size
        have Aq2:q2.heap[q1.heap.size]?=some (.cells #[.slice none 0 0] 59):=by rw [<-eq2];exact heap_alloc_new q1 _
        have gq2:=(Array.getElem?_eq_some_iff.1 Aq2).1
        go_simp
        try rw [eq2]
        obtain ⟨A,hA⟩:∃ A,q1.heap.size=A:=⟨_,rfl⟩
        rw [hA] at Aq2
        try rw [hA]
        clear eq2
        have q2_S:=HS.out q2 Oq2
        refine hK.out _ _ ⟨q2_S,fun _=>trivial⟩ ?_
        clear hK K
        try simp only [Act.put,qa,qb,qc]
        refine yo (i:=4) (o:=⟨some 12,.call { callee:=.value (.func 170),args:=#[.tmp 8,.tmp 10,.tmp 11],argTypes:=#[113,9,3] },_,_,_,none⟩) (by kernel_rfl) rfl (fun K hK=>?_)
        go_simp
        gi_wp2_with (refine ⟨trivial,?_⟩;gi_at_call 170;refine (callsIn_wide.2 (HI0.out _ Lq2)).mono ?_;rintro e q3 ⟨vr,rfl,Lq3,oq3,rq3'⟩;obtain ⟨ad,cp,hvr⟩:=yr rq3';subst hvr)
        have Oq3:Ofw (fun k=>k=b) W2 q3:=Oq2.trans oq3
        have nq3':=Oq2.size
        have rq3:=zz (B':=w.heap.size) rq3' (by omega)
        have Aq3:=(oq3.block A (Array.getElem?_eq_some_iff.1 Aq2).1 (by omega)).trans Aq2
        have q3_S:=HS.out q3 Oq3
        refine hK.out _ _ ⟨q3_S,fun _=>trivial⟩ ?_
        clear hK K
        try simp only [Act.put,qa,qb,qc]
        refine yo (i:=5) (o:=⟨some 13,.buildSlice 59 1 #[(0,.tmp 12)],_,_,_,none⟩) (by kernel_rfl) rfl (fun K hK=>?_)
        obtain ⟨q4,eq4⟩:∃ V,q3.alloc (.cells #[.slice ad a0.length cp] 58)=V:=⟨_,rfl⟩
        have bq4:Below q3.heap.size q3 q4:=eq4▸(Below.refl _ _).alloc (Nat.le_refl _) _
        have Lq4:=Lq3.below bq4
        have Oq4:Ofw (fun k=>k=b) W2 q4:=Oq3.trans (Ofw.of_below bq4)
        have nq4:=Oq3.size
        have rq4:=yC (S:=fun _=>False) rq3 (fun _ _ f=>f) (Ofw.of_below bq4)
        have Aq4:=(bq4.block _ (Array.getElem?_eq_some_iff.1 Aq3).1).trans Aq3
        have Xq4:q4.heap[q3.heap.size]?=some (.cells #[.slice ad a0.length cp] 58):=by rw [<-eq4];exact heap_alloc_new q3 _
        have gq4:=(Array.getElem?_eq_some_iff.1 Xq4).1
        go_simp
        try rw [eq4]
        obtain ⟨X,hX⟩:∃ X,q3.heap.size=X:=⟨_,rfl⟩
        rw [hX] at Xq4
        try rw [hX]
        clear eq4
        have q4_S:=HS.out q4 Oq4
        refine hK.out _ _ ⟨q4_S,fun _=>trivial⟩ ?_
        clear hK K
        try simp only [Act.put,qa,qb,qc]
        have cA:=yd Aq4 0
        have zA:=yu Aq4 0
        refine yo (i:=7) (o:=⟨none,.store 59 (.tmp 5) (.tmp 13),_,_,_,none⟩) (by kernel_rfl) rfl (fun K hK=>?_)
        go_simp
        have hf:=fin.out q4 _ A X _ Lq4 Oq4 (by omega) (by omega) Aq4 Xq4 rq4 rfl
        refine hK.out _ _ ⟨HS.out _ hf.1,fun _=>trivial⟩ ?_
        clear hK K
        try simp only [Act.put,qa,qb,qc]
        refine yZ (by kernel_rfl) ⟨rfl,?_⟩ _
        gi_wp2
        gi_meet
        case rel=>exact ⟨A,rfl,hf.2⟩
    · obtain ⟨q1,eq1⟩:∃ V,q0.alloc (.cells #[.slice none 0 0] 59)=V:=⟨_,rfl⟩
      have bq1:Below q0.heap.size q0 q1:=eq1▸(Below.refl _ _).alloc (Nat.le_refl _) _
      have Lq1:=Lq0.below bq1
      have Oq1:Ofw (fun k=>k=b) W2 q1:=Oq0.trans (Ofw.of_below bq1)
      have nq1:=Oq0.size
      have Aq1:q1.heap[q0.heap.size]?=some (.cells #[.slice none 0 0] 59):=by rw [<-eq1];exact heap_alloc_new q0 _
      have gq1:=(Array.getElem?_eq_some_iff.1 Aq1).1
      go_simp
      try rw [eq1]
      obtain ⟨A,hA⟩:∃ A,q0.heap.size=A:=⟨_,rfl⟩
      rw [hA] at Aq1
      try rw [hA]
      clear eq1
      have q1_S:=HS.out q1 Oq1
      refine hK.out _ _ ⟨q1_S,fun _=>trivial⟩ ?_
      clear hK K
      try simp only [Act.put,qa,qb,qc]
      refine yo (i:=2) (o:=⟨some 10,.call { callee:=.value (.func 124),args:=#[.tmp 9],argTypes:=#[113] },_,_,_,none⟩) (by kernel_rfl) rfl (fun K hK=>?_)
      go_simp
      gi_wp2_with (refine ⟨trivial,?_⟩;gi_at_call 124;refine (callsIn_wide.2 (HN.out _ Lq1)).mono ?_;rintro e q2 ⟨rfl,Lq2,oq2⟩)
      have Oq2:Ofw (fun k=>k=b) W2 q2:=Oq1.trans oq2
      have Aq2:=(oq2.block A (Array.getElem?_eq_some_iff.1 Aq1).1 (by omega)).trans Aq1
      have q2_S:=HS.out q2 Oq2
      refine hK.out _ _ ⟨q2_S,fun _=>trivial⟩ ?_
      clear hK K
      try simp only [Act.put,qa,qb,qc]
      refine yo (i:=4) (o:=⟨some 12,.call { callee:=.value (.func 170),args:=#[.tmp 8,.tmp 10,.tmp 11],argTypes:=#[113,9,3] },_,_,_,none⟩) (by kernel_rfl) rfl (fun K hK=>?_)
      go_simp
      gi_wp2_with (refine ⟨trivial,?_⟩;gi_at_call 170;refine (callsIn_wide.2 (HI0.out _ Lq2)).mono ?_;rintro e q3 ⟨vr,rfl,Lq3,oq3,rq3'⟩;obtain ⟨ad,cp,hvr⟩:=yr rq3';subst hvr)
      have Oq3:Ofw (fun k=>k=b) W2 q3:=Oq2.trans oq3
      have nq3':=Oq2.size
      have rq3:=zz (B':=w.heap.size) rq3' (by omega)
      have Aq3:=(oq3.block A (Array.getElem?_eq_some_iff.1 Aq2).1 (by omega)).trans Aq2
      have q3_S:=HS.out q3 Oq3
      refine hK.out _ _ ⟨q3_S,fun _=>trivial⟩ ?_
      clear hK K
      try simp only [Act.put,qa,qb,qc]
      refine yo (i:=5) (o:=⟨some 13,.buildSlice 59 1 #[(0,.tmp 12)],_,_,_,none⟩) (by kernel_rfl) rfl (fun K hK=>?_)
      obtain ⟨q4,eq4⟩:∃ V,q3.alloc (.cells #[.slice ad a0.length cp] 58)=V:=⟨_,rfl⟩
      have bq4:Below q3.heap.size q3 q4:=eq4▸(Below.refl _ _).alloc (Nat.le_refl _) _
      have Lq4:=Lq3.below bq4
      have Oq4:Ofw (fun k=>k=b) W2 q4:=Oq3.trans (Ofw.of_below bq4)
      have nq4:=Oq3.size
      have rq4:=yC (S:=fun _=>False) rq3 (fun _ _ f=>f) (Ofw.of_below bq4)
      have Aq4:=(bq4.block _ (Array.getElem?_eq_some_iff.1 Aq3).1).trans Aq3
      have Xq4:q4.heap[q3.heap.size]?=some (.cells #[.slice ad a0.length cp] 58):=by rw [<-eq4];exact heap_alloc_new q3 _
      have gq4:=(Array.getElem?_eq_some_iff.1 Xq4).1
      go_simp
      try rw [eq4]
      obtain ⟨X,hX⟩:∃ X,q3.heap.size=X:=⟨_,rfl⟩
      rw [hX] at Xq4
      try rw [hX]
      clear eq4
      have q4_S:=HS.out q4 Oq4
      refine hK.out _ _ ⟨q4_S,fun _=>trivial⟩ ?_
      clear hK K
      try simp only [Act.put,qa,qb,qc]
      have cA:=yd Aq4 0
      have zA:=yu Aq4 0
      refine yo (i:=7) (o:=⟨none,.store 59 (.tmp 5) (.tmp 13),_,_,_,none⟩) (by kernel_rfl) rfl (fun K hK=>?_)
      go_simp
      have hf:=fin.out q4 _ A X _ Lq4 Oq4 (by omega) (by omega) Aq4 Xq4 rq4 rfl
      refine hK.out _ _ ⟨HS.out _ hf.1,fun _=>trivial⟩ ?_
      clear hK K
      try simp only [Act.put,qa,qb,qc]
      refine yZ (by kernel_rfl) ⟨rfl,?_⟩ _
      gi_wp2
      gi_meet
      case rel=>exact ⟨A,rfl,hf.2⟩
  case rest=>
    obtain ⟨A,rfl,hA⟩:=hcut
    obtain ⟨hA1,hA2,hln,hof,g,vr,hbx,hg,hgc,hrw⟩:=hA.out
    obtain ⟨p1,p2,o1,z1⟩:=HBX.out wc hof
    have c1:wc.cell? ⟨w.heap.size,0,none⟩=some (.pointer (some ⟨b,0,none⟩)):=by rw [yd p1 0];rfl
    have hX:=xX (F:=Fence.wide) (5-1) b wc rfl
    clear hA HBX HL2 HN HI0 hW1 hW2 hb1 hb2 hbw hp2 hq2 hs1 hs2
    gi_wp2_with (refine ⟨trivial,?_⟩;gi_at_call 47;refine hX.mono ?_;rintro e w' ⟨rfl,rfl⟩)
    obtain ⟨W3,hW3⟩:∃ W3,wc.alloc (.cells #[.pointer (some ⟨b,0,none⟩)] 113)=W3:=⟨_,rfl⟩
    rw [hW3]
    obtain ⟨T,hT⟩:∃ T,wc.heap.size=T:=⟨_,rfl⟩
    have hb3:Below wc.heap.size wc W3:=hW3▸(Below.refl _ _).alloc (Nat.le_refl _) _
    have hs3:W3.heap.size=T+1:=by rw [<-hW3,<-hT];simp
    have hB3:W3.heap[T]?=some (.cells #[.pointer (some ⟨b,0,none⟩)] 113):=by rw [<-hT,<-hW3];exact World.alloc_heap_new wc _
    have hT2:w.heap.size+2<=T:=by omega
    have hAT:A<T:=by omega
    have hgT:g<T:=by have:=(Array.getElem?_eq_some_iff.1 hgc).1;omega
    have o3:Ofw (fun k=>k=b) wc W3:=Ofw.of_below hb3
    have hLA:LAt w.heap.size A 59 58 1 W3.heap.size 1 [vr] (.slice (some ⟨g,0,none⟩) 1 1) W3:=by
      refine ⟨(hb3.block _ hA2).trans hbx,Yy ((hb3.block _ (Array.getElem?_eq_some_iff.1 hgc).1).trans hgc) (by omega) rfl,fun g' hg'=>?_⟩
      injection hg' with hg'
      have hg2:g=g':=hg'
      omega
    have hRW:RowsW W3 w.heap.size (T+1) [vr] [a0]:=RowsW.one ⟨yC (S:=fun _=>False) hrw (fun _ _ f=>f) (Ofw.of_below hb3),fun g hg=>by
      obtain ⟨_,cur,hc⟩:=yn hrw hg
      have:=(Array.getElem?_eq_some_iff.1 hc).1
      omega⟩
    have hL3:Ln w0 V va b t1 W3:=hln.below hb3
    have hO3:Ofw (fun k=>k=b) w W3:=o1.trans o3
    have hP3:=(hb3.block _ (Array.getElem?_eq_some_iff.1 p1).1).trans p1
    have hQ3:=(hb3.block _ (Array.getElem?_eq_some_iff.1 p2).1).trans p2
    rw [hT]
    rw [hs3] at hLA
    clear hX hW3 c1 hbx hgc hof o1 o3 hln p1 p2 hb3 z1 hT hrw
    refine Yg rfl (by omega) (gf:=105) (lb:=#[.pointer (some ⟨T,0,none⟩)]) rfl trivial (enters_of Tryz.func105 (by kernel_rfl) rfl) (w0:=w0) (V:=V) (va:=va) (b:=b) t1 (T:=fun k=>k=T) (fun k hk=>by omega)
      (fun W hb=>Yh _ (by omega) T W ((hb.block _ (by omega)).trans hB3) (by omega)) rfl
      (fun s' W=>∃ (k:Nat) (all:List (List Int)) (vs:List Value) (v:Value),LAt w.heap.size A 59 58 1 (T+1) all.length vs v W/\RowsW W w.heap.size (T+1) vs all/\Ln w0 V va b s' W/\Ofw (fun k=>k=b) w W/\(W.heap[w.heap.size]?=some (.cells #[.pointer (some ⟨b,0,none⟩)] 113)/\W.heap[w.heap.size+1]?=some (.cells #[.int .i64 n] 3)/\W.heap[T]?=some (.cells #[.pointer (some ⟨b,0,none⟩)] 113))/\(all.length+k=64∨s'.2≠0)/\zd n k all s'=RR)
      (fun c W=>False)
      (fun s' W hI=>by obtain ⟨k,all,vs,v,_,_,h2,_⟩:=hI;exact h2) ?_ (fun _ _ _ f=>f.elim) ⟨63,[a0],_,_,hLA,hRW,hL3,hO3,⟨hP3,hQ3,hB3⟩,.inl rfl,HRR.out⟩
      (fun x=>{ tmps:=#[.pointer (some ⟨b,0,none⟩),.int .i64 n,.pointer (some ⟨w.heap.size,0,none⟩),.pointer (some ⟨w.heap.size+1,0,none⟩),.slice none 0 0,.pointer (some ⟨A,0,none⟩),.string (yc x),undef,u8,u9,u10,u11,u12,u13,.pointer (some ⟨b,0,none⟩),.func (.func 105) #[] #[.pointer (some ⟨T,0,none⟩)],.string (yc x),u17,u18,u19,u20,u21,u22,u23,u24,u25,u26,u27,u28,u29,u30,u31,u32,u33,u34],defers:=[] }) ?assign ?body ?done (fun _ _ f=>f.elim)
    · rintro s' W W' ⟨k,all,vs,v,hla,hrw,hl,ho,⟨hp,hq,ht⟩,hk,hgo⟩ kk
      exact ⟨k,all,vs,v,hla.loop (by omega) (by rw [hs3] at kk;exact kk),hrw.keep kk (fun k hk=>.inl (by rw [hs3] at hk;exact hk)),hl.keep (fun k hk=>by omega) kk,ho.new kk (fun i hi=>by omega),⟨(kk.block _ (Array.getElem?_eq_some_iff.1 hp).1 (by omega)).trans hp,(kk.block _ (Array.getElem?_eq_some_iff.1 hq).1 (by omega)).trans hq,(kk.block _ (Array.getElem?_eq_some_iff.1 ht).1 (by omega)).trans ht⟩,hk,hgo⟩
    case assign=>
      intro l' x W K hK
      gi_wp2
      exact hK
    case body=>
      rintro l' s' x s1 W Wa ⟨k,all,vs,v,hla,hrw,hl,ho,⟨hp,hq,ht⟩,hk,hgo⟩ hx hlna hoa hsz
      rw [hs3] at hoa hsz
      have hbt:W.heap[b]?=some (.cells #[va,.string (yc s'.1),.int .i64 s'.2] 115 (0,0)):=hl.o
      have hAb:A≠b:=by omega
      have hfar:=hla.far
      have hk0:all.length+k=64:=by
        rcases hk with h | h
        · exact h
        · exact absurd (zh hx).2.2.2.1 h
      have hla1:LAt w.heap.size A 59 58 1 (T+1) all.length vs v Wa:=
        ⟨(hoa.block A (Array.getElem?_eq_some_iff.1 hla.box).1 (by omega)).trans hla.box,yC hla.row (fun g hg e=>by
          have h1:=hfar g hg
          obtain ⟨h2,cur,hc⟩:=yn hla.row hg
          rcases e with e | e | e
          · rw [e,hbt] at hc;injection hc with hc;injection hc with _ hc _;cases hc
          · exact h1.1 e
          · exact h1.2 e) hoa,hfar⟩
      have hrw1:RowsW Wa w.heap.size (T+1) vs all:=hrw.keep hoa (fun k hk=>by
        rcases hk with e | e | e
        · right;intro c hc;rw [e,hbt] at hc;injection hc with hc;injection hc with _ hc _;cases hc
        · exact .inl (.inl e)
        · exact .inl (.inr e))
      have hpa:=(hoa.block _ (Array.getElem?_eq_some_iff.1 hp).1 (by omega)).trans hp
      have hqa:=(hoa.block _ (Array.getElem?_eq_some_iff.1 hq).1 (by omega)).trans hq
      have hta:=(hoa.block _ (Array.getElem?_eq_some_iff.1 ht).1 (by omega)).trans ht
      have hoa1:Ofw (fun k=>k=b) w Wa:=ho.new hoa (fun i hi=>by omega)
      obtain ⟨ad,cp,hv⟩:=yr hla1.row
      subst hv
      have c0:Wa.cell? ⟨w.heap.size,0,none⟩=some (.pointer (some ⟨b,0,none⟩)):=by rw [yd hpa 0];rfl
      have HS:Hid (∀ wz,Ofw (fun k=>k=b) Wa wz->(LAt w.heap.size A 59 58 1 (T+1) all.length vs (.slice ad all.length cp) wz/\RowsW wz w.heap.size (T+1) vs all/\Ofw (fun k=>k=b) w wz)/\(wz.heap[w.heap.size]?=some (.cells #[.pointer (some ⟨b,0,none⟩)] 113)/\wz.heap[w.heap.size+1]?=some (.cells #[.int .i64 n] 3)/\wz.heap[T]?=some (.cells #[.pointer (some ⟨b,0,none⟩)] 113)/\T+1+2<=wz.heap.size/\Wa.heap.size<=wz.heap.size/\∀ k,(k=T∨k=W3.heap.size∨k=W3.heap.size+1)->wz.heap[k]?=Wa.heap[k]?)):=fun wz oz=>by
        have nb:∀ t,t≠115->∀ k,k=b->∀ c,Wa.heap[k]?≠some (.cells c t (0,0)):=fun t ht k hk c e=>by
          rw [hk,hlna.o] at e
          injection e with e
          injection e with _ e _
          exact ht e.symm
        exact ⟨⟨hla1.keep oz (fun k hk=>⟨by omega,nb 58 (by decide) k hk⟩),hrw1.keep oz (fun k hk=>.inr (nb 3 (by decide) k hk)),hoa1.trans oz⟩,(oz.block _ (Array.getElem?_eq_some_iff.1 hpa).1 (by omega)).trans hpa,(oz.block _ (Array.getElem?_eq_some_iff.1 hqa).1 (by omega)).trans hqa,(oz.block _ (Array.getElem?_eq_some_iff.1 hta).1 (by omega)).trans hta,by have:=oz.size;omega,oz.size,fun k hk=>oz.block k (by omega) (by omega)⟩
      have HC:Hid (∀ wz,Ofw (fun k=>k=b) Wa wz->wz.cell? ⟨w.heap.size,0,none⟩=some (.pointer (some ⟨b,0,none⟩))/\wz.cell? ⟨w.heap.size+1,0,none⟩=some (.int .i64 n)/\wz.cell? ⟨A,0,none⟩=some (.slice ad all.length cp)):=fun wz oz=>by
        obtain ⟨⟨g1,_⟩,g2,g3,_⟩:=HS.out wz oz
        exact ⟨by rw [yd g2 0];rfl,by rw [yd g3 0];rfl,by rw [yd g1.box 0];rfl⟩
      obtain ⟨sm,hsm⟩:∃ sm,zt x [58] s1=sm:=⟨_,rfl⟩
      obtain ⟨y,hy⟩:∃ y,(ye sm).1=y:=⟨_,rfl⟩
      obtain ⟨sq,hsq⟩:∃ sq,(ye sm).2=sq:=⟨_,rfl⟩
      have HMu1:Hid (Calls Tryz.prog 133 #[.pointer (some ⟨b,0,none⟩),.string (yc x),.string (yc [58])] Wa (RO w0 V va b (.tuple #[]) sm Wa)):=by
        have:=HMu.out s1 x Wa hlna
        rw [hsm] at this
        exact this
      have HN1:Hid (∀ w',Ln w0 V va b sm w'->Calls Tryz.prog 124 #[.pointer (some ⟨b,0,none⟩)] w' (RO w0 V va b (.string (yc y)) sq w')):=fun w' h'=>by
        have:=HNx.out sm w' h'
        rw [hy,hsq] at this
        exact this
      have hml:sm.1.length<=s1.1.length:=by rw [<-hsm,Zn];exact Nat.le_refl _
      have hs1l:s1.1.length<=70000:=hlna.n
      have hyl:y.length<=70000:=by rw [<-hy];exact (zY (Nat.le_trans hml hs1l)).1
      have hql:sq.1.length<=s1.1.length:=by rw [<-hsq];exact Nat.le_trans (zY (Nat.le_refl _)).2 hml
      have HY0:Hid (yl s'=some (x,s1)/\zt x [58] s1=sm/\ye sm=(y,sq)):=⟨hx,hsm,by rw [<-hy,<-hsq]⟩
      have hal:all.length<=64:=by omega
      have hm:Tryz.prog.follows .mixedOrders=true:=by kernel_rfl
      clear hla hrw hl ho hp hq ht hbt hoa hla1 hrw1 hpa hqa hta hoa1 hlna hsm hy hsq hml hs1l
      cases k with
      | zero =>
        have h64:((all.length:Int)==64)=true:=by simp;omega
        obtain ⟨aa,haa⟩:∃ aa,(yV n y (yh 47 sq)).1=aa:=⟨_,rfl⟩
        obtain ⟨s2,hs2'⟩:∃ s2,(yV n y (yh 47 sq)).2=s2:=⟨_,rfl⟩
        have hbad:(yh 47 sq).2≠0:=by
          unfold yh
          split
          · show (47:Int)≠0;decide
          · rename_i h;exact h
        have hb2:s2.2≠0:=by rw [<-hs2',X9 hbad];exact hbad
        have HI1:Hid (∀ w',Ln w0 V va b (yh 47 sq) w'->Calls Tryz.prog 170 #[.pointer (some ⟨b,0,none⟩),.string (yc y),.int .i64 n] w' (RL w0 V va b 3 1 aa.length (encL encI aa) s2 w')):=fun w' h'=>by
          have:=HI.out (yh 47 sq) y w' h' hyl
          rw [haa,hs2'] at this
          exact this
        have HGo:Hid (zd n 0 (all++[aa]) s2=RR):=by
          show _=_
          rw [<-hgo]
          conv=>rhs;unfold zd
          rw [HY0.out.1]
          simp only [HY0.out.2.1,HY0.out.2.2,haa,hs2']
          unfold zd
          rw [xr hb2]
        have HM1:Hid (s2.1.length<=s1.1.length):=by rw [<-hs2'];exact Nat.le_trans (YX _ _ _) (by rw [yU];exact hql)
        have HKn:Hid ((all++[aa]).length+0=64∨s2.2≠0):=.inr hb2
        have HF:Hid (∀ w',Ln w0 V va b sq w'->Calls Tryz.prog 109 #[.pointer (some ⟨b,0,none⟩),.int .i64 47] w' (RO w0 V va b (.tuple #[]) (yh 47 sq) w')):=fun w' h'=>zF 47 w' h'
        obtain ⟨kn,hkn⟩:∃ kn,kn=0:=⟨_,rfl⟩
        rw [<-hkn] at HGo HKn
        clear hgo haa hs2' hbad hb2 hkn hk hk0
        gi_wp2_with (first
          | (refine ⟨trivial,?_⟩;gi_at_call 133;refine (zu HMu1.out).mono ?_;rintro e w3 ⟨rfl,h3,o3⟩;have c03:=(HC.out _ o3).1;have L3:Hid (Ln w0 V va b sm w3):=h3;have O3:Hid (Ofw (fun k=>k=b) Wa w3):=o3;clear h3 o3)
          | (refine ⟨trivial,?_⟩;gi_at_call 124;refine (zu (HN1.out _ L3.out)).mono ?_;rintro e w4 ⟨rfl,h4,o4⟩;have O4:Hid (Ofw (fun k=>k=b) Wa w4):=O3.out.trans o4;obtain ⟨c04,c14,cA4⟩:=HC.out _ O4.out;have L4:Hid (Ln w0 V va b sq w4):=h4;clear h4 o4)
          | (refine ⟨trivial,?_⟩;gi_at_call 109;refine (zu (HF.out _ L4.out)).mono ?_;rintro e wz ⟨rfl,h5,o5⟩;have Oz:Hid (Ofw (fun k=>k=b) Wa wz):=O4.out.trans o5;obtain ⟨c0z,c1z,cAz⟩:=HC.out _ Oz.out;have Lz:Hid (Ln w0 V va b (yh 47 sq) wz):=h5;clear h5 o5))
        have HZ:Hid (LAt w.heap.size A 59 58 1 (T+1) all.length vs (.slice ad all.length cp) wz/\RowsW wz w.heap.size (T+1) vs all/\Ln w0 V va b (yh 47 sq) wz/\Ofw (fun k=>k=b) w wz/\wz.heap[b]?=some (.cells #[va,.string (yc (yh 47 sq).1),.int .i64 (yh 47 sq).2] 115 (0,0))/\True):=⟨(HS.out _ Oz.out).1.1,(HS.out _ Oz.out).1.2.1,Lz.out,(HS.out _ Oz.out).1.2.2,Lz.out.o,trivial⟩
        have HY:=Hid.mk' (HS.out _ Oz.out).2
        refine zW (fun w'=>w'.cell? ⟨w.heap.size,0,none⟩=some (.pointer (some ⟨b,0,none⟩))/\w'.cell? ⟨w.heap.size+1,0,none⟩=some (.int .i64 n)) (fun w'=>w'.cell? ⟨A,0,none⟩=some (.slice ad all.length cp)) [7] hm ⟨⟨c0z,c1z⟩,cAz⟩ (fun hHeld=>?_)
        refine xY (i:=0) (oi:=⟨some 27,.load 59 (.tmp 5),_,_,_,none⟩) (v:=?va1) rfl (by kernel_rfl) (by kernel_rfl) (by kernel_rfl) (by kernel_rfl) (by kernel_rfl) (by kernel_rfl) yt ⟨Or.inl ⟨by rfl,?ha1⟩,fun _=>rfl,fun _ e=>by cases e⟩ (by assumption) ?ra1
        case ha1=>(intro w hSw;(try dsimp only at hSw);go_simp;try (with_reducible rfl))
        try simp only [Act.put,qa,qb,qc]
        refine yw (i:=1) (oi:=⟨some 28,.load 113 (.tmp 2),_,_,_,none⟩) (v:=?vb1) rfl (by kernel_rfl) (by kernel_rfl) (by kernel_rfl) (by kernel_rfl) (by kernel_rfl) yt ⟨Or.inl ⟨by rfl,?hb1⟩,fun _=>rfl,fun _ e=>by cases e⟩ (by assumption) ?rb1
        case hb1=>(intro w hSw;(try dsimp only at hSw);go_simp;try (with_reducible rfl))
        try simp only [Act.put,qa,qb,qc]
        refine yw (i:=2) (oi:=⟨some 29,.move (.tmp 7),_,_,_,none⟩) (v:=?vc1) rfl (by kernel_rfl) (by kernel_rfl) (by kernel_rfl) (by kernel_rfl) (by kernel_rfl) yt ⟨Or.inl ⟨by rfl,?hc1⟩,fun _=>rfl,fun _ e=>by cases e⟩ (by assumption) ?rc1
        case hc1=>(intro w hSw;(try dsimp only at hSw);go_simp;try (with_reducible rfl))
        try simp only [Act.put,qa,qb,qc]
        refine yw (i:=3) (oi:=⟨some 30,.load 3 (.tmp 3),_,_,_,none⟩) (v:=?vd1) rfl (by kernel_rfl) (by kernel_rfl) (by kernel_rfl) (by kernel_rfl) (by kernel_rfl) yt ⟨Or.inl ⟨by rfl,?hd1⟩,fun _=>rfl,fun _ e=>by cases e⟩ (by assumption) ?rd1
        case hd1=>(intro w hSw;(try dsimp only at hSw);go_simp;try (with_reducible rfl))
        try simp only [Act.put,qa,qb,qc]
        refine yo (i:=4) (o:=⟨some 31,.call { callee:=.value (.func 170),args:=#[.tmp 28,.tmp 29,.tmp 30],argTypes:=#[113,9,3] },_,_,_,none⟩) (by kernel_rfl) rfl (fun K hK=>?_)
        go_simp
        gi_wp2_with (refine ⟨trivial,?_⟩;gi_at_call 170;refine (zu (HI1.out _ (HZ.out.2.2.1.below (Below.refl _ _).drew))).mono ?_;rintro e w3 ⟨vr,rfl,h3,o3,r3⟩;obtain ⟨adr,cpr,hvr⟩:=yr r3;subst hvr;have H3:Hid (Ln w0 V va b s2 w3/\Ofw (fun k=>k=b) wz w3):=⟨h3,(Ofw.of_below (Below.refl _ _).drew).trans o3⟩;have R3:Hid (w3.ownsRow wz.heap.size 3 1 (.slice adr aa.length cpr) aa.length (encL encI aa)):=zz r3 (Below.refl wz.heap.size wz).drew.size;clear h3 o3 r3)
        have nb:∀ t,t≠115->∀ k,k=b->∀ c,wz.heap[k]?≠some (.cells c t (0,0)):=fun t ht k hk c e=>by
          rw [hk,HZ.out.2.2.2.2.1] at e
          injection e with e
          injection e with _ e _
          exact ht e.symm
        have hla3:LAt w.heap.size A 59 58 1 (T+1) all.length vs (.slice ad all.length cp) w3:=HZ.out.1.keep H3.out.2 (fun k hk=>⟨by omega,nb 58 (by decide) k hk⟩)
        have hrw3:RowsW w3 w.heap.size (T+1) vs all:=HZ.out.2.1.keep H3.out.2 (fun k hk=>.inr (nb 3 (by decide) k hk))
        have p3:=(H3.out.2.block _ (Array.getElem?_eq_some_iff.1 HY.out.1).1 (by omega)).trans HY.out.1
        have q3:=(H3.out.2.block _ (Array.getElem?_eq_some_iff.1 HY.out.2.1).1 (by omega)).trans HY.out.2.1
        have t3:=(H3.out.2.block _ (Array.getElem?_eq_some_iff.1 HY.out.2.2.1).1 (by omega)).trans HY.out.2.2.1
        have cA3:w3.cell? ⟨A,0,none⟩=some (.slice ad all.length cp):=by rw [yd hla3.box 0];rfl
        have c03:w3.cell? ⟨w.heap.size,0,none⟩=some (.pointer (some ⟨b,0,none⟩)):=by rw [yd p3 0];rfl
        have c13:w3.cell? ⟨w.heap.size+1,0,none⟩=some (.int .i64 n):=by rw [yd q3 0];rfl
        refine hK.out _ _ ⟨⟨c03,c13⟩,fun _=>cA3⟩ ?_
        clear hK K
        try simp only [Act.put,qa,qb,qc]
        refine yo (i:=5) (o:=⟨some 32,.buildSlice 59 1 #[(0,.tmp 31)],_,_,_,none⟩) (by kernel_rfl) rfl (fun K hK=>?_)
        obtain ⟨V1,hV1⟩:∃ V1,w3.alloc (.cells #[.slice adr aa.length cpr] 58)=V1:=⟨_,rfl⟩
        have bV:Below w3.heap.size w3 V1:=hV1▸(Below.refl _ _).alloc (Nat.le_refl _) _
        go_simp
        try rw [hV1]
        refine hK.out _ _ ⟨⟨(bV.cell (p:=⟨w.heap.size,0,none⟩) (Array.getElem?_eq_some_iff.1 p3).1).trans c03,(bV.cell (p:=⟨w.heap.size+1,0,none⟩) (Array.getElem?_eq_some_iff.1 q3).1).trans c13⟩,fun _=>(bV.cell (p:=⟨A,0,none⟩) (Array.getElem?_eq_some_iff.1 hla3.box).1).trans cA3⟩ ?_
        clear hK K
        try simp only [Act.put,qa,qb,qc]
        refine yo (i:=6) (o:=⟨some 33,.call { callee:=.builtin .append,args:=#[.tmp 27,.tmp 32],argTypes:=#[59,59] },_,_,_,none⟩) (by kernel_rfl) rfl (fun K hK=>?_)
        have hs3':T+1+2<=w3.heap.size:=Nat.le_trans HY.out.2.2.2.1 H3.out.2.size
        refine xZ w3 V1 (.tmp 27) (.tmp 32) 59 58 (.slice none 0 0) 1 24 rfl Tryz.underlying59 (by kernel_rfl) rfl (by decide) w.heap.size (.slice ad all.length cp) all.length vs #[.slice adr aa.length cpr] (by rfl) (by rfl) hV1 hla3.row rfl (by intro u hu;simp at hu;subst hu;rfl) (by unfold maxLen;omega) (by omega) (by omega) (by rfl) ?_
        intro v5 w5 g1 g2 g3
        obtain ⟨P1,P2,P3⟩:=hla3.push (by decide) g1 g2 g3 (by omega)
        obtain ⟨ad5,cp5,hv5⟩:=yr g1
        subst hv5
        have cA5:w5.cell? ⟨A,0,none⟩=some (.slice ad all.length cp):=by rw [yd P3 0];rfl
        have zA5:=yu P3 0
        have ne:∀ k c t,w3.heap[k]?=some (.cells c t (0,0))->t≠58->(Value.slice ad all.length cp).ownBlock≠some k:=fun k c t hk ht e=>by
          obtain ⟨_,cur,hc⟩:=yn hla3.row e
          rw [hk] at hc
          injection hc with hc
          injection hc with _ hc _
          exact ht hc
        have p5:=(g2.block _ (Array.getElem?_eq_some_iff.1 p3).1 (ne _ _ _ p3 (by decide))).trans p3
        have q5:=(g2.block _ (Array.getElem?_eq_some_iff.1 q3).1 (ne _ _ _ q3 (by decide))).trans q3
        have c05:w5.cell? ⟨w.heap.size,0,none⟩=some (.pointer (some ⟨b,0,none⟩)):=by rw [yd p5 0];rfl
        have c15:w5.cell? ⟨w.heap.size+1,0,none⟩=some (.int .i64 n):=by rw [yd q5 0];rfl
        refine hK.out _ _ ⟨⟨c05,c15⟩,fun _=>cA5⟩ ?_
        clear hK K
        try simp only [Act.put,qa,qb,qc]
        refine Y0 (i:=7) (o:=⟨none,.store 59 (.tmp 5) (.tmp 33),_,_,_,none⟩) (by kernel_rfl) rfl (by kernel_rfl) (fun K hK=>?_)
        go_simp
        refine hK.out _ _ ⟨by rw [World.cell?,Below.heap_setCell _ ⟨A,0,none⟩ _ _ (by simp only;omega)];exact c05,by rw [World.cell?,Below.heap_setCell _ ⟨A,0,none⟩ _ _ (by simp only;omega)];exact c15⟩ ?_
        clear hK K
        try simp only [Act.put,qa,qb,qc]
        refine yZ (by kernel_rfl) ⟨rfl,?_⟩ _
        have st:∀ k c t,w3.heap[k]?=some (.cells c t (0,0))->t≠58->k≠A->(w5.setCell ⟨A,0,none⟩ (.slice ad5 (all.length+1) cp5)).heap[k]?=some (.cells c t (0,0)):=fun k c t hk ht hkA=>
          (P2.block k (Array.getElem?_eq_some_iff.1 hk).1 (fun e=>e.elim hkA (ne k c t hk ht))).trans hk
        have hl6:Ln w0 V va b s2 (w5.setCell ⟨A,0,none⟩ (.slice ad5 (all.length+1) cp5)):=H3.out.1.keep (fun k hk=>by
          rcases hk with hk | hk
          · omega
          · obtain ⟨h2,_⟩:=yn hla3.row hk
            exact ⟨by omega,fun e=>by omega⟩) P2
        have ho6:Ofw (fun k=>k=b) w (w5.setCell ⟨A,0,none⟩ (.slice ad5 (all.length+1) cp5)):=(HZ.out.2.2.2.1.trans H3.out.2).new P2 (fun i hi=>by
          rcases hi with hi | hi
          · omega
          · exact .inl (yn hla3.row hi).1)
        have hla6:LAt w.heap.size A 59 58 1 (T+1) (all++[aa]).length (vs++[.slice adr aa.length cpr]) (.slice ad5 (all.length+1) cp5) (w5.setCell ⟨A,0,none⟩ (.slice ad5 (all.length+1) cp5)):=by
          rw [List.length_append]
          exact P1
        have tA:∀ c,w3.heap[A]?≠some (.cells c 3 (0,0)):=fun c e=>by
          rw [hla3.box] at e
          injection e with e
          injection e with _ e _
          cases e
        have hrw6:RowsW (w5.setCell ⟨A,0,none⟩ (.slice ad5 (all.length+1) cp5)) w.heap.size (T+1) (vs++[.slice adr aa.length cpr]) (all++[aa]):=by
          refine RowsW.snoc (hrw3.keep P2 (fun k hk=>.inr (fun c e=>?_))) ⟨zz (yC R3.out (fun g hg e=>?_) P2) (by have:=HY.out.2.2.2.1;omega),fun g hg=>?_⟩
          · rcases hk with hk | hk
            · exact tA c (hk▸e)
            · exact ne k c 3 e (by decide) hk
          · obtain ⟨_,cur,hc⟩:=yn R3.out hg
            rcases e with e | e
            · exact tA cur (e▸hc)
            · exact ne g cur 3 hc (by decide) e
          · have h1:=(yn R3.out hg).1
            have:=HY.out.2.2.2.1
            omega
        have far:=hla3.far
        have hW3s:=hs3
        have kp:∀ k,(k=T∨k=W3.heap.size∨k=W3.heap.size+1)->(w5.setCell ⟨A,0,none⟩ (.slice ad5 (all.length+1) cp5)).heap[k]?=Wa.heap[k]?:=fun k hk=>by
          have hkA:k≠A:=by omega
          have hkb:k≠b:=by omega
          have hks:k<wz.heap.size:=by have:=HY.out.2.2.2.1;omega
          refine ((P2.block k (Nat.lt_of_lt_of_le hks H3.out.2.size) (fun e=>?_)).trans (H3.out.2.block k hks hkb)).trans (HY.out.2.2.2.2.2 k hk)
          rcases e with e | e
          · exact hkA e
          · rcases hk with hk | hk | hk
            · subst hk;exact ne _ _ _ t3 (by decide) e
            · have:=far k e;omega
            · have:=far k e;omega
        have hsz6:Wa.heap.size<=(w5.setCell ⟨A,0,none⟩ (.slice ad5 (all.length+1) cp5)).heap.size:=Nat.le_trans HY.out.2.2.2.2.1 (Nat.le_trans H3.out.2.size P2.size)
        have HX6:=Hid.mk' (And.intro hla6 (And.intro hrw6 (And.intro hl6 ho6)))
        have HB6:=Hid.mk' (And.intro (st _ _ _ p3 (by decide) (by omega)) (And.intro (st _ _ _ q3 (by decide) (by omega)) (st _ _ _ t3 (by decide) (by omega))))
        have HK6:=Hid.mk' (And.intro hsz6 kp)
        clear P1 P2 P3 g1 g2 g3 hla3 hla6 hrw6 hrw3 hl6 ho6 kp st p3 q3 t3 p5 q5 hsz6 ne far tA nb
        gi_wp2
        exact ⟨.inl ⟨rfl,s2,⟨kn,all++[aa],_,_,HX6.out.1,HX6.out.2.1,HX6.out.2.2.1,HX6.out.2.2.2,HB6.out,HKn.out,HGo.out⟩,HM1.out⟩,HK6.out⟩
      | succ k =>
        have h64:((all.length:Int)==64)=false:=by simp;omega
        obtain ⟨aa,haa⟩:∃ aa,(yV n y sq).1=aa:=⟨_,rfl⟩
        obtain ⟨s2,hs2'⟩:∃ s2,(yV n y sq).2=s2:=⟨_,rfl⟩
        have HI1:Hid (∀ w',Ln w0 V va b sq w'->Calls Tryz.prog 170 #[.pointer (some ⟨b,0,none⟩),.string (yc y),.int .i64 n] w' (RL w0 V va b 3 1 aa.length (encL encI aa) s2 w')):=fun w' h'=>by
          have:=HI.out sq y w' h' hyl
          rw [haa,hs2'] at this
          exact this
        obtain ⟨kn,hkn⟩:∃ kn,kn=k:=⟨_,rfl⟩
        have HGo:Hid (zd n kn (all++[aa]) s2=RR):=by
          show _=_
          rw [<-hgo,hkn]
          conv=>rhs;unfold zd
          rw [HY0.out.1]
          simp only [HY0.out.2.1,HY0.out.2.2,haa,hs2']
        have HM1:Hid (s2.1.length<=s1.1.length):=by rw [<-hs2'];exact Nat.le_trans (YX _ _ _) hql
        have HKn:Hid ((all++[aa]).length+kn=64∨s2.2≠0):=.inl (by simp;omega)
        clear hgo haa hs2' hkn hk hk0
        gi_wp2_with (first
          | (refine ⟨trivial,?_⟩;gi_at_call 133;refine (zu HMu1.out).mono ?_;rintro e w3 ⟨rfl,h3,o3⟩;have c03:=(HC.out _ o3).1;have L3:Hid (Ln w0 V va b sm w3):=h3;have O3:Hid (Ofw (fun k=>k=b) Wa w3):=o3;clear h3 o3)
          | (refine ⟨trivial,?_⟩;gi_at_call 124;refine (zu (HN1.out _ L3.out)).mono ?_;rintro e wz ⟨rfl,h4,o4⟩;have Oz:Hid (Ofw (fun k=>k=b) Wa wz):=O3.out.trans o4;obtain ⟨c0z,c1z,cAz⟩:=HC.out _ Oz.out;have Lz:Hid (Ln w0 V va b sq wz):=h4;clear h4 o4))
        have HZ:Hid (LAt w.heap.size A 59 58 1 (T+1) all.length vs (.slice ad all.length cp) wz/\RowsW wz w.heap.size (T+1) vs all/\Ln w0 V va b sq wz/\Ofw (fun k=>k=b) w wz/\wz.heap[b]?=some (.cells #[va,.string (yc sq.1),.int .i64 sq.2] 115 (0,0))/\True):=⟨(HS.out _ Oz.out).1.1,(HS.out _ Oz.out).1.2.1,Lz.out,(HS.out _ Oz.out).1.2.2,Lz.out.o,trivial⟩
        have HY:=Hid.mk' (HS.out _ Oz.out).2
        refine zW (fun w'=>w'.cell? ⟨w.heap.size,0,none⟩=some (.pointer (some ⟨b,0,none⟩))/\w'.cell? ⟨w.heap.size+1,0,none⟩=some (.int .i64 n)) (fun w'=>w'.cell? ⟨A,0,none⟩=some (.slice ad all.length cp)) [7] hm ⟨⟨c0z,c1z⟩,cAz⟩ (fun hHeld=>?_)
        refine xY (i:=0) (oi:=⟨some 27,.load 59 (.tmp 5),_,_,_,none⟩) (v:=?va2) rfl (by kernel_rfl) (by kernel_rfl) (by kernel_rfl) (by kernel_rfl) (by kernel_rfl) (by kernel_rfl) yt ⟨Or.inl ⟨by rfl,?ha2⟩,fun _=>rfl,fun _ e=>by cases e⟩ (by assumption) ?ra2
        case ha2=>(intro w hSw;(try dsimp only at hSw);go_simp;try (with_reducible rfl))
        try simp only [Act.put,qa,qb,qc]
        refine yw (i:=1) (oi:=⟨some 28,.load 113 (.tmp 2),_,_,_,none⟩) (v:=?vb2) rfl (by kernel_rfl) (by kernel_rfl) (by kernel_rfl) (by kernel_rfl) (by kernel_rfl) yt ⟨Or.inl ⟨by rfl,?hb2⟩,fun _=>rfl,fun _ e=>by cases e⟩ (by assumption) ?rb2
        case hb2=>(intro w hSw;(try dsimp only at hSw);go_simp;try (with_reducible rfl))
        try simp only [Act.put,qa,qb,qc]
        refine yw (i:=2) (oi:=⟨some 29,.move (.tmp 7),_,_,_,none⟩) (v:=?vc2) rfl (by kernel_rfl) (by kernel_rfl) (by kernel_rfl) (by kernel_rfl) (by kernel_rfl) yt ⟨Or.inl ⟨by rfl,?hc2⟩,fun _=>rfl,fun _ e=>by cases e⟩ (by assumption) ?rc2
        case hc2=>(intro w hSw;(try dsimp only at hSw);go_simp;try (with_reducible rfl))
        try simp only [Act.put,qa,qb,qc]
        refine yw (i:=3) (oi:=⟨some 30,.load 3 (.tmp 3),_,_,_,none⟩) (v:=?vd2) rfl (by kernel_rfl) (by kernel_rfl) (by kernel_rfl) (by kernel_rfl) (by kernel_rfl) yt ⟨Or.inl ⟨by rfl,?hd2⟩,fun _=>rfl,fun _ e=>by cases e⟩ (by assumption) ?rd2
        case hd2=>(intro w hSw;(try dsimp only at hSw);go_simp;try (with_reducible rfl))
        try simp only [Act.put,qa,qb,qc]
        refine yo (i:=4) (o:=⟨some 31,.call { callee:=.value (.func 170),args:=#[.tmp 28,.tmp 29,.tmp 30],argTypes:=#[113,9,3] },_,_,_,none⟩) (by kernel_rfl) rfl (fun K hK=>?_)
        go_simp
        gi_wp2_with (refine ⟨trivial,?_⟩;gi_at_call 170;refine (zu (HI1.out _ (HZ.out.2.2.1.below (Below.refl _ _).drew))).mono ?_;rintro e w3 ⟨vr,rfl,h3,o3,r3⟩;obtain ⟨adr,cpr,hvr⟩:=yr r3;subst hvr;have H3:Hid (Ln w0 V va b s2 w3/\Ofw (fun k=>k=b) wz w3):=⟨h3,(Ofw.of_below (Below.refl _ _).drew).trans o3⟩;have R3:Hid (w3.ownsRow wz.heap.size 3 1 (.slice adr aa.length cpr) aa.length (encL encI aa)):=zz r3 (Below.refl wz.heap.size wz).drew.size;clear h3 o3 r3)
        have nb:∀ t,t≠115->∀ k,k=b->∀ c,wz.heap[k]?≠some (.cells c t (0,0)):=fun t ht k hk c e=>by
          rw [hk,HZ.out.2.2.2.2.1] at e
          injection e with e
          injection e with _ e _
          exact ht e.symm
        have hla3:LAt w.heap.size A 59 58 1 (T+1) all.length vs (.slice ad all.length cp) w3:=HZ.out.1.keep H3.out.2 (fun k hk=>⟨by omega,nb 58 (by decide) k hk⟩)
        have hrw3:RowsW w3 w.heap.size (T+1) vs all:=HZ.out.2.1.keep H3.out.2 (fun k hk=>.inr (nb 3 (by decide) k hk))
        have p3:=(H3.out.2.block _ (Array.getElem?_eq_some_iff.1 HY.out.1).1 (by omega)).trans HY.out.1
        have q3:=(H3.out.2.block _ (Array.getElem?_eq_some_iff.1 HY.out.2.1).1 (by omega)).trans HY.out.2.1
        have t3:=(H3.out.2.block _ (Array.getElem?_eq_some_iff.1 HY.out.2.2.1).1 (by omega)).trans HY.out.2.2.1
        have cA3:w3.cell? ⟨A,0,none⟩=some (.slice ad all.length cp):=by rw [yd hla3.box 0];rfl
        have c03:w3.cell? ⟨w.heap.size,0,none⟩=some (.pointer (some ⟨b,0,none⟩)):=by rw [yd p3 0];rfl
        have c13:w3.cell? ⟨w.heap.size+1,0,none⟩=some (.int .i64 n):=by rw [yd q3 0];rfl
        refine hK.out _ _ ⟨⟨c03,c13⟩,fun _=>cA3⟩ ?_
        clear hK K
        try simp only [Act.put,qa,qb,qc]
        refine yo (i:=5) (o:=⟨some 32,.buildSlice 59 1 #[(0,.tmp 31)],_,_,_,none⟩) (by kernel_rfl) rfl (fun K hK=>?_)
        obtain ⟨V1,hV1⟩:∃ V1,w3.alloc (.cells #[.slice adr aa.length cpr] 58)=V1:=⟨_,rfl⟩
        have bV:Below w3.heap.size w3 V1:=hV1▸(Below.refl _ _).alloc (Nat.le_refl _) _
        go_simp
        try rw [hV1]
        refine hK.out _ _ ⟨⟨(bV.cell (p:=⟨w.heap.size,0,none⟩) (Array.getElem?_eq_some_iff.1 p3).1).trans c03,(bV.cell (p:=⟨w.heap.size+1,0,none⟩) (Array.getElem?_eq_some_iff.1 q3).1).trans c13⟩,fun _=>(bV.cell (p:=⟨A,0,none⟩) (Array.getElem?_eq_some_iff.1 hla3.box).1).trans cA3⟩ ?_
        clear hK K
        try simp only [Act.put,qa,qb,qc]
        refine yo (i:=6) (o:=⟨some 33,.call { callee:=.builtin .append,args:=#[.tmp 27,.tmp 32],argTypes:=#[59,59] },_,_,_,none⟩) (by kernel_rfl) rfl (fun K hK=>?_)
        have hs3':T+1+2<=w3.heap.size:=Nat.le_trans HY.out.2.2.2.1 H3.out.2.size
        refine xZ w3 V1 (.tmp 27) (.tmp 32) 59 58 (.slice none 0 0) 1 24 rfl Tryz.underlying59 (by kernel_rfl) rfl (by decide) w.heap.size (.slice ad all.length cp) all.length vs #[.slice adr aa.length cpr] (by rfl) (by rfl) hV1 hla3.row rfl (by intro u hu;simp at hu;subst hu;rfl) (by unfold maxLen;omega) (by omega) (by omega) (by rfl) ?_
        intro v5 w5 g1 g2 g3
        obtain ⟨P1,P2,P3⟩:=hla3.push (by decide) g1 g2 g3 (by omega)
        obtain ⟨ad5,cp5,hv5⟩:=yr g1
        subst hv5
        have cA5:w5.cell? ⟨A,0,none⟩=some (.slice ad all.length cp):=by rw [yd P3 0];rfl
        have zA5:=yu P3 0
        have ne:∀ k c t,w3.heap[k]?=some (.cells c t (0,0))->t≠58->(Value.slice ad all.length cp).ownBlock≠some k:=fun k c t hk ht e=>by
          obtain ⟨_,cur,hc⟩:=yn hla3.row e
          rw [hk] at hc
          injection hc with hc
          injection hc with _ hc _
          exact ht hc
        have p5:=(g2.block _ (Array.getElem?_eq_some_iff.1 p3).1 (ne _ _ _ p3 (by decide))).trans p3
        have q5:=(g2.block _ (Array.getElem?_eq_some_iff.1 q3).1 (ne _ _ _ q3 (by decide))).trans q3
        have c05:w5.cell? ⟨w.heap.size,0,none⟩=some (.pointer (some ⟨b,0,none⟩)):=by rw [yd p5 0];rfl
        have c15:w5.cell? ⟨w.heap.size+1,0,none⟩=some (.int .i64 n):=by rw [yd q5 0];rfl
        refine hK.out _ _ ⟨⟨c05,c15⟩,fun _=>cA5⟩ ?_
        clear hK K
        try simp only [Act.put,qa,qb,qc]
        refine Y0 (i:=7) (o:=⟨none,.store 59 (.tmp 5) (.tmp 33),_,_,_,none⟩) (by kernel_rfl) rfl (by kernel_rfl) (fun K hK=>?_)
        go_simp
        refine hK.out _ _ ⟨by rw [World.cell?,Below.heap_setCell _ ⟨A,0,none⟩ _ _ (by simp only;omega)];exact c05,by rw [World.cell?,Below.heap_setCell _ ⟨A,0,none⟩ _ _ (by simp only;omega)];exact c15⟩ ?_
        clear hK K
        try simp only [Act.put,qa,qb,qc]
        refine yZ (by kernel_rfl) ⟨rfl,?_⟩ _
        have st:∀ k c t,w3.heap[k]?=some (.cells c t (0,0))->t≠58->k≠A->(w5.setCell ⟨A,0,none⟩ (.slice ad5 (all.length+1) cp5)).heap[k]?=some (.cells c t (0,0)):=fun k c t hk ht hkA=>
          (P2.block k (Array.getElem?_eq_some_iff.1 hk).1 (fun e=>e.elim hkA (ne k c t hk ht))).trans hk
        have hl6:Ln w0 V va b s2 (w5.setCell ⟨A,0,none⟩ (.slice ad5 (all.length+1) cp5)):=H3.out.1.keep (fun k hk=>by
          rcases hk with hk | hk
          · omega
          · obtain ⟨h2,_⟩:=yn hla3.row hk
            exact ⟨by omega,fun e=>by omega⟩) P2
        have ho6:Ofw (fun k=>k=b) w (w5.setCell ⟨A,0,none⟩ (.slice ad5 (all.length+1) cp5)):=(HZ.out.2.2.2.1.trans H3.out.2).new P2 (fun i hi=>by
          rcases hi with hi | hi
          · omega
          · exact .inl (yn hla3.row hi).1)
        have hla6:LAt w.heap.size A 59 58 1 (T+1) (all++[aa]).length (vs++[.slice adr aa.length cpr]) (.slice ad5 (all.length+1) cp5) (w5.setCell ⟨A,0,none⟩ (.slice ad5 (all.length+1) cp5)):=by
          rw [List.length_append]
          exact P1
        have tA:∀ c,w3.heap[A]?≠some (.cells c 3 (0,0)):=fun c e=>by
          rw [hla3.box] at e
          injection e with e
          injection e with _ e _
          cases e
        have hrw6:RowsW (w5.setCell ⟨A,0,none⟩ (.slice ad5 (all.length+1) cp5)) w.heap.size (T+1) (vs++[.slice adr aa.length cpr]) (all++[aa]):=by
          refine RowsW.snoc (hrw3.keep P2 (fun k hk=>.inr (fun c e=>?_))) ⟨zz (yC R3.out (fun g hg e=>?_) P2) (by have:=HY.out.2.2.2.1;omega),fun g hg=>?_⟩
          · rcases hk with hk | hk
            · exact tA c (hk▸e)
            · exact ne k c 3 e (by decide) hk
          · obtain ⟨_,cur,hc⟩:=yn R3.out hg
            rcases e with e | e
            · exact tA cur (e▸hc)
            · exact ne g cur 3 hc (by decide) e
          · have h1:=(yn R3.out hg).1
            have:=HY.out.2.2.2.1
            omega
        have far:=hla3.far
        have hW3s:=hs3
        have kp:∀ k,(k=T∨k=W3.heap.size∨k=W3.heap.size+1)->(w5.setCell ⟨A,0,none⟩ (.slice ad5 (all.length+1) cp5)).heap[k]?=Wa.heap[k]?:=fun k hk=>by
          have hkA:k≠A:=by omega
          have hkb:k≠b:=by omega
          have hks:k<wz.heap.size:=by have:=HY.out.2.2.2.1;omega
          refine ((P2.block k (Nat.lt_of_lt_of_le hks H3.out.2.size) (fun e=>?_)).trans (H3.out.2.block k hks hkb)).trans (HY.out.2.2.2.2.2 k hk)
          rcases e with e | e
          · exact hkA e
          · rcases hk with hk | hk | hk
            · subst hk;exact ne _ _ _ t3 (by decide) e
            · have:=far k e;omega
            · have:=far k e;omega
        have hsz6:Wa.heap.size<=(w5.setCell ⟨A,0,none⟩ (.slice ad5 (all.length+1) cp5)).heap.size:=Nat.le_trans HY.out.2.2.2.2.1 (Nat.le_trans H3.out.2.size P2.size)
        have HX6:=Hid.mk' (And.intro hla6 (And.intro hrw6 (And.intro hl6 ho6)))
        have HB6:=Hid.mk' (And.intro (st _ _ _ p3 (by decide) (by omega)) (And.intro (st _ _ _ q3 (by decide) (by omega)) (st _ _ _ t3 (by decide) (by omega))))
        have HK6:=Hid.mk' (And.intro hsz6 kp)
        clear P1 P2 P3 g1 g2 g3 hla3 hla6 hrw6 hrw3 hl6 ho6 kp st p3 q3 t3 p5 q5 hsz6 ne far tA nb
        gi_wp2
        exact ⟨.inl ⟨rfl,s2,⟨kn,all++[aa],_,_,HX6.out.1,HX6.out.2.1,HX6.out.2.2.1,HX6.out.2.2.2,HB6.out,HKn.out,HGo.out⟩,HM1.out⟩,HK6.out⟩
    case done=>
      rintro s' W ⟨k,all,vs,v,hla,hrw,hl,ho,_,hk,hgo⟩ ht hK
      have hR:RR=(all,s'):=by
        rw [<-hgo]
        cases k <;> (unfold zd;rw [ht])
      have c2:W.cell? ⟨A,0,none⟩=some v:=by rw [yd hla.box 0];rfl
      have HR:Hid (RR=(all,s')):=hR
      clear hR hgo
      gi_wp2
      refine ⟨by simp,.inl ⟨_,_,rfl,run_takeDeferred hK,?_⟩⟩
      have hp:=zf (S:=fun k=>k=W3.heap.size) W W3.heap.size (.deferred none) rfl
      refine ⟨_,results_tmp rfl _ _ _,v,vs,T+1,rfl,?_,?_,?_,?_⟩
      · rw [HR.out];exact hl.keep (fun k hk=>by omega) hp
      · exact ho.new hp (fun i hi=>by omega)
      · rw [HR.out];exact yC hla.row (fun g hg e=>by have h1:=hla.far g hg;have e':g=W3.heap.size:=e;omega) hp
      · rw [HR.out];exact hrw.keep hp (fun k hk=>.inl (.inl (hk.trans hs3)))
end Go.Proofs.YthohnmplbjhjaaaGreatDoor
