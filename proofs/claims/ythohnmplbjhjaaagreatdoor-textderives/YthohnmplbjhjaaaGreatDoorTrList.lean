import Derived.Test.YthohnmplbjhjaaaGreatDoorQs
import Derived.Test.YthohnmplbjhjaaaGreatDoorJ28
import Derived.Sort.CutIn
namespace Go.Proofs.YthohnmplbjhjaaaGreatDoor
open Go Go.RowKit Go.Shelf Go.Lib
set_option maxRecDepth 100000
set_option maxHeartbeats 4000000
attribute [local go_sem] Oper.semAt_some
theorem Hid.mk' {p:Prop} (h:p):Hid p:=h
def encI (n:Int):List Value:=[.int .i64 n]
def encT (t:Int × Int):List Value:=[.int .i64 t.1,.int .i64 t.2]
def encL {α:Type} (f:α->List Value) (l:List α):List Value:=l.flatMap f
theorem Yx {α:Type} (f:α->List Value) (l:List α) (a:α):encL f (l++[a])=encL f l++f a:=by simp [encL]
theorem YA {c:Prop} [Decidable c] {a d:St} {l:List UInt8} (h1:a.1=l) (h2:d.1=l):(if c then a else d).1=l:=by split <;> assumption
theorem Zg (V:List Md.Vr) (x:List UInt8) (t:St):(yE V x t).2.1=t.1:=by
 unfold yE
 refine YA ?_ ?_
 ·rw [yS];exact YA rfl (yS _ _)
 ·exact YA rfl (yS _ _)
theorem Zl (x:List UInt8) (t:St):(ym x t).2.1=t.1:=YA rfl (yS _ _)
theorem Zi (x:List UInt8) (t:St):(yN x t).2.1=t.1:=YA ((yS _ _).trans (Zl x t)) (Zl x t)
theorem y48 (V:List Md.Vr) (x:List UInt8) (t:St):(yO V x t).2.1.length<=t.1.length:=by
 have h1:(cfT (ym x t).1 (ym x t).2).1=t.1:=YA ((yS _ _).trans (Zl x t)) (Zl x t)
 show (yE V (ye _).1 (ye _).2).2.1.length<=_
 rw [Zg,<-h1]
 exact (zV (Nat.le_refl _)).2
theorem y3O {w0:World} {V:List Md.Vr} {va:Value} {b:Nat} {s:St} (w:World) (h:Ln w0 V va b s w):Calls Tryz.prog 125 #[.pointer (some ⟨b,0,none⟩),.func (.func 123) #[.pointer (some ⟨b,0,none⟩)] #[]] w (RL w0 V va b 3 1 (yp (yE V) s).1.length (encL encI (yp (yE V) s).1) (yp (yE V) s).2 w):=by
  obtain ⟨rd,hrd⟩:∃ rd:List UInt8->St->Int × St,(yE V)=rd:=⟨_,rfl⟩
  have HI:Hid (∀ (t:St) (x:List UInt8) w',Ln w0 V va b t w'->x.length<=70000->Calls Tryz.prog 123 #[.pointer (some ⟨b,0,none⟩),.string (yc x)] w' (RO w0 V va b (.int .i64 (rd x t).1) (rd x t).2 w')):=by rw [<-hrd];exact fun t x w' h' hx=>X5 x w' h' hx
  have HM:Hid (∀ (x:List UInt8) (t:St),(rd x t).2.1.length<=t.1.length):=by rw [<-hrd];exact fun x t=>Nat.le_of_eq (congrArg List.length (Zg V x t))
  rw [hrd]
  clear hrd
  have HN:Hid (∀ w',Ln w0 V va b s w'->Calls Tryz.prog 124 #[.pointer (some ⟨b,0,none⟩)] w' (RO w0 V va b (.string (yc (ye s).1)) (ye s).2 w')):=fun w' h'=>xq w' h'
  have HXl:Hid ((ye s).1.length<=70000):=(zV h.n).1
  obtain ⟨x0,hx0⟩:∃ x,(ye s).1=x:=⟨_,rfl⟩
  obtain ⟨t0,ht0⟩:∃ t,(ye s).2=t:=⟨_,rfl⟩
  obtain ⟨a0,ha0⟩:∃ a,(rd x0 t0).1=a:=⟨_,rfl⟩
  obtain ⟨t1,ht1⟩:∃ t,(rd x0 t0).2=t:=⟨_,rfl⟩
  obtain ⟨RR,hRR⟩:∃ RR,yK rd 63 [a0] t1=RR:=⟨_,rfl⟩
  have he:yp rd s=RR:=by unfold yp;rw [hx0,ht0,ha0,ht1,hRR]
  have HRR:Hid (yK rd 63 [a0] t1=RR):=hRR
  rw [he]
  rw [hx0,ht0] at HN
  rw [hx0] at HXl
  have HI0:Hid (∀ w',Ln w0 V va b t0 w'->Calls Tryz.prog 123 #[.pointer (some ⟨b,0,none⟩),.string (yc x0)] w' (RO w0 V va b (.int .i64 a0) t1 w')):=fun w' h'=>by
    have:=HI.out t0 x0 w' h' HXl.out
    rw [ha0,ht1] at this
    exact this
  clear hx0 ht0 ha0 ht1 hRR he
  refine (callsIn_wide (n:=5)).1 ?_
  obtain ⟨W1,hW1⟩:∃ W1,w.alloc (.cells #[.pointer (some ⟨b,0,none⟩)] 113)=W1:=⟨_,rfl⟩
  obtain ⟨W2,hW2⟩:∃ W2,W1.alloc (.cells #[.func (.func 123) #[.pointer (some ⟨b,0,none⟩)] #[]] 162)=W2:=⟨_,rfl⟩
  have hb1:Below w.heap.size w W1:=hW1▸(Below.refl _ _).alloc (Nat.le_refl _) _
  have hs1:W1.heap.size=w.heap.size+1:=by rw [<-hW1];simp
  have hb2:Below W1.heap.size W1 W2:=hW2▸(Below.refl _ _).alloc (Nat.le_refl _) _
  have hs2:W2.heap.size=w.heap.size+2:=by rw [<-hW2];simp [hs1]
  have hbw:Below w.heap.size w W2:=hb1.trans (hb2.mono hb1.size)
  have hp2:W2.heap[w.heap.size]?=some (.cells #[.pointer (some ⟨b,0,none⟩)] 113):=(hb2.block _ (by omega)).trans (hW1▸World.alloc_heap_new w _)
  have hq2:W2.heap[w.heap.size+1]?=some (.cells #[.func (.func 123) #[.pointer (some ⟨b,0,none⟩)] #[]] 162):=by rw [<-hs1,<-hW2];exact World.alloc_heap_new W1 _
  have hlt:=h.lt
  have hbg:=h.big
  have HBX:Hid (∀ w',Ofw (fun k=>k=b) W2 w'->w'.heap[w.heap.size]?=some (.cells #[.pointer (some ⟨b,0,none⟩)] 113)/\w'.heap[w.heap.size+1]?=some (.cells #[.func (.func 123) #[.pointer (some ⟨b,0,none⟩)] #[]] 162)/\Ofw (fun k=>k=b) w w'/\w.heap.size+2<=w'.heap.size):=fun w' ho=>
    ⟨(ho.block _ (Array.getElem?_eq_some_iff.1 hp2).1 (by omega)).trans hp2,(ho.block _ (Array.getElem?_eq_some_iff.1 hq2).1 (by omega)).trans hq2,(Ofw.of_below hbw).trans ho,by have:=ho.size;omega⟩
  have HL2:Hid (Ln w0 V va b s W2):=h.below hbw
  have hm:Tryz.prog.follows .mixedOrders=true:=by kernel_rfl
  refine callsIn_of_wp_marks Tryz.func125 rfl trivial ?_ rfl
  simp only [Tryz.ntmps125,List.size_toArray,List.length_cons,List.length_nil,Nat.reduceAdd,Nat.reduceSub,Array.replicate_succ,Array.replicate_zero,List.push_toArray,List.append_toArray,List.nil_append,List.cons_append]
  gi_wp2
  gi_cut [5] from 7 (fun tv wx=>∃ A,tv=.pointer (some ⟨A,0,none⟩)/\Hid (w.heap.size+2<=A/\A<wx.heap.size/\Ln w0 V va b t1 wx/\Ofw (fun k=>k=b) W2 wx/\∃ g,wx.heap[A]?=some (.cells #[.slice (some ⟨g,0,none⟩) 1 1] 58)/\w.heap.size+2<=g/\wx.heap[g]?=some (.cells #[.int .i64 a0] 3)))
  case first=>
    refine zT (fun w'=>w'.cell? ⟨w.heap.size,0,none⟩=some (.pointer (some ⟨b,0,none⟩))/\w'.cell? ⟨w.heap.size+1,0,none⟩=some (.func (.func 123) #[.pointer (some ⟨b,0,none⟩)] #[])) (fun _=>True) [] hm ⟨⟨?_,?_⟩,trivial⟩ (fun hHeld=>?_)
    · exact (by rw [yd hp2 0]:W2.cell? ⟨w.heap.size,0,none⟩=_)
    · exact (by rw [yd hq2 0]:W2.cell? ⟨w.heap.size+1,0,none⟩=_)
    refine yv (i:=0) (oi:=⟨some 7,.load 162 (.tmp 3),_,_,_,none⟩) (v:=?v0) rfl (by kernel_rfl) (by kernel_rfl) (by kernel_rfl) (by kernel_rfl) (by kernel_rfl) yr ⟨Or.inl ⟨by rfl,?h0⟩,fun _=>rfl,fun _ e=>by cases e⟩ (by assumption) ?r0
    case h0=>(intro w hSw;(try dsimp only at hSw);go_simp;try (with_reducible rfl))
    try simp only [Act.put,qa,qb,qc]
    refine yv (i:=1) (oi:=⟨some 8,.load 113 (.tmp 2),_,_,_,none⟩) (v:=?v1) rfl (by kernel_rfl) (by kernel_rfl) (by kernel_rfl) (by kernel_rfl) (by kernel_rfl) yr ⟨Or.inl ⟨by rfl,?h1⟩,fun _=>rfl,fun _ e=>by cases e⟩ (by assumption) ?r1
    case h1=>(intro w hSw;(try dsimp only at hSw);go_simp;try (with_reducible rfl))
    try simp only [Act.put,qa,qb,qc]
    have HS:Hid (∀ w',Ofw (fun k=>k=b) W2 w'->w'.cell? ⟨w.heap.size,0,none⟩=some (.pointer (some ⟨b,0,none⟩))/\w'.cell? ⟨w.heap.size+1,0,none⟩=some (.func (.func 123) #[.pointer (some ⟨b,0,none⟩)] #[])):=fun w' ho=>by
      obtain ⟨p1,p2,_⟩:=HBX.out w' ho
      exact ⟨by rw [yd p1 0];rfl,by rw [yd p2 0];rfl⟩
    have fin:Hid (∀ (wq wf:World) (A X:Nat),Ln w0 V va b t1 wq->Ofw (fun k=>k=b) W2 wq->w.heap.size+2<=A->w.heap.size+2<=X->wq.heap[A]?=some (.cells #[.slice none 0 0] 58)->wq.heap[X]?=some (.cells #[.int .i64 a0] 3)->wf=wq.setCell ⟨A,0,none⟩ (.slice (some ⟨X,0,none⟩) 1 1) ->
        Ofw (fun k=>k=b) W2 wf/\(w.heap.size+2<=A/\A<wf.heap.size/\Ln w0 V va b t1 wf/\Ofw (fun k=>k=b) W2 wf/\∃ g,wf.heap[A]?=some (.cells #[.slice (some ⟨g,0,none⟩) 1 1] 58)/\w.heap.size+2<=g/\wf.heap[g]?=some (.cells #[.int .i64 a0] 3))):=fun wq wf A X hl ho hA hX cA cX e=>by
      have o6:Ofw (fun k=>k=A) wq wf:=e▸Ofw.set _ rfl
      have of:Ofw (fun k=>k=b) W2 wf:=ho.new o6 (fun i hi=>by omega)
      have hAX:X≠A:=fun e=>by rw [e,cA] at cX;injection cX with cX;injection cX with _ cX _;cases cX
      refine ⟨of,hA,Nat.lt_of_lt_of_le (Array.getElem?_eq_some_iff.1 cA).1 o6.size,hl.keep (fun k hk=>by omega) o6,of,X,e▸yC cA 0 _,hX,(o6.block X (Array.getElem?_eq_some_iff.1 cX).1 hAX).trans cX⟩
    obtain ⟨q0,hq0⟩:∃ q,W2.drew=q:=⟨_,rfl⟩
    have Lq0:Ln w0 V va b s q0:=hq0▸HL2.out.below (Below.refl _ _).drew
    have Oq0:Ofw (fun k=>k=b) W2 q0:=hq0▸Ofw.of_below (Below.refl _ _).drew
    rw [hq0]
    clear hHeld hW1 hW2 hb1 hb2 hbw hp2 hq2 hq0
    refine zW (i:=2) (j:=5) (o:=⟨some 9,.call { callee:=.value (.func 124),args:=#[.tmp 8],argTypes:=#[113] },_,_,_,none⟩) (o':=⟨some 5,.alloc 58,_,_,_,none⟩) (by kernel_rfl) rfl rfl (fun K hK=>?_) (fun K hK=>?_)
    · go_simp
      gi_wp2_with (refine ⟨trivial,?_⟩;gi_at_call 124;refine (callsIn_wide.2 (HN.out _ Lq0)).mono ?_;rintro e q1 ⟨rfl,Lq1,oq1⟩)
      have Oq1:Ofw (fun k=>k=b) W2 q1:=Oq0.trans oq1
      have q1_S:=HS.out q1 Oq1
      refine hK.out _ _ ⟨q1_S,fun _=>trivial⟩ ?_
      clear hK K
      try simp only [Act.put,qa,qb,qc]
      refine zW (i:=3) (j:=5) (o:=⟨some 10,.call { callee:=.value (.tmp 7),args:=#[.tmp 9],argTypes:=#[9] },_,_,_,none⟩) (o':=⟨some 5,.alloc 58,_,_,_,none⟩) (by kernel_rfl) rfl rfl (fun K hK=>?_) (fun K hK=>?_)
      · go_simp
        gi_wp2_with (refine ⟨trivial,?_⟩;gi_at_call 123;refine (callsIn_wide.2 (HI0.out _ Lq1)).mono ?_;rintro e q2 ⟨rfl,Lq2,oq2⟩)
        have Oq2:Ofw (fun k=>k=b) W2 q2:=Oq1.trans oq2
        have q2_S:=HS.out q2 Oq2
        refine hK.out _ _ ⟨q2_S,fun _=>trivial⟩ ?_
        clear hK K
        try simp only [Act.put,qa,qb,qc]
        refine zW (i:=4) (j:=5) (o:=⟨some 11,.buildSlice 58 1 #[(0,.tmp 10)],_,_,_,none⟩) (o':=⟨some 5,.alloc 58,_,_,_,none⟩) (by kernel_rfl) rfl rfl (fun K hK=>?_) (fun K hK=>?_)
        · obtain ⟨q3,eq3⟩:∃ V,q2.alloc (.cells #[.int .i64 a0] 3)=V:=⟨_,rfl⟩
          have bq3:Below q2.heap.size q2 q3:=eq3▸(Below.refl _ _).alloc (Nat.le_refl _) _
          have Lq3:=Lq2.below bq3
          have Oq3:Ofw (fun k=>k=b) W2 q3:=Oq2.trans (Ofw.of_below bq3)
          have nq3:=Oq2.size
          have Xq3:q3.heap[q2.heap.size]?=some (.cells #[.int .i64 a0] 3):=by rw [<-eq3];exact heap_alloc_new q2 _
          have gq3:=(Array.getElem?_eq_some_iff.1 Xq3).1
          go_simp
          try rw [eq3]
          obtain ⟨X,hX⟩:∃ X,q2.heap.size=X:=⟨_,rfl⟩
          rw [hX] at Xq3
          try rw [hX]
          clear eq3
          have q3_S:=HS.out q3 Oq3
          refine hK.out _ _ ⟨q3_S,fun _=>trivial⟩ ?_
          clear hK K
          try simp only [Act.put,qa,qb,qc]
          refine yo (i:=5) (o:=⟨some 5,.alloc 58,_,_,_,none⟩) (by kernel_rfl) rfl (fun K hK=>?_)
          obtain ⟨q4,eq4⟩:∃ V,q3.alloc (.cells #[.slice none 0 0] 58)=V:=⟨_,rfl⟩
          have bq4:Below q3.heap.size q3 q4:=eq4▸(Below.refl _ _).alloc (Nat.le_refl _) _
          have Lq4:=Lq3.below bq4
          have Oq4:Ofw (fun k=>k=b) W2 q4:=Oq3.trans (Ofw.of_below bq4)
          have nq4:=Oq3.size
          have Aq4:q4.heap[q3.heap.size]?=some (.cells #[.slice none 0 0] 58):=by rw [<-eq4];exact heap_alloc_new q3 _
          have Xq4:=(bq4.block _ (Array.getElem?_eq_some_iff.1 Xq3).1).trans Xq3
          have gq4:=(Array.getElem?_eq_some_iff.1 Aq4).1
          go_simp
          try rw [eq4]
          obtain ⟨A,hA⟩:∃ A,q3.heap.size=A:=⟨_,rfl⟩
          rw [hA] at Aq4
          try rw [hA]
          clear eq4
          have q4_S:=HS.out q4 Oq4
          refine hK.out _ _ ⟨q4_S,fun _=>trivial⟩ ?_
          clear hK K
          try simp only [Act.put,qa,qb,qc]
          have cA:=yd Aq4 0
          have zA:=yt Aq4 0
          refine yo (i:=6) (o:=⟨none,.store 58 (.tmp 5) (.tmp 11),_,_,_,none⟩) (by kernel_rfl) rfl (fun K hK=>?_)
          go_simp
          have hf:=fin.out q4 _ A X Lq4 Oq4 (by omega) (by omega) Aq4 Xq4 rfl
          refine hK.out _ _ ⟨HS.out _ hf.1,fun _=>trivial⟩ ?_
          clear hK K
          try simp only [Act.put,qa,qb,qc]
          refine yY (by kernel_rfl) ⟨rfl,?_⟩ _
          gi_wp2
          gi_meet
          case rel=>exact ⟨A,rfl,hf.2⟩
        · obtain ⟨q3,eq3⟩:∃ V,q2.alloc (.cells #[.slice none 0 0] 58)=V:=⟨_,rfl⟩
          have bq3:Below q2.heap.size q2 q3:=eq3▸(Below.refl _ _).alloc (Nat.le_refl _) _
          have Lq3:=Lq2.below bq3
          have Oq3:Ofw (fun k=>k=b) W2 q3:=Oq2.trans (Ofw.of_below bq3)
          have nq3:=Oq2.size
          have Aq3:q3.heap[q2.heap.size]?=some (.cells #[.slice none 0 0] 58):=by rw [<-eq3];exact heap_alloc_new q2 _
          have gq3:=(Array.getElem?_eq_some_iff.1 Aq3).1
          go_simp
          try rw [eq3]
          obtain ⟨A,hA⟩:∃ A,q2.heap.size=A:=⟨_,rfl⟩
          rw [hA] at Aq3
          try rw [hA]
          clear eq3
          have q3_S:=HS.out q3 Oq3
          refine hK.out _ _ ⟨q3_S,fun _=>trivial⟩ ?_
          clear hK K
          try simp only [Act.put,qa,qb,qc]
          refine yo (i:=4) (o:=⟨some 11,.buildSlice 58 1 #[(0,.tmp 10)],_,_,_,none⟩) (by kernel_rfl) rfl (fun K hK=>?_)
          obtain ⟨q4,eq4⟩:∃ V,q3.alloc (.cells #[.int .i64 a0] 3)=V:=⟨_,rfl⟩
          have bq4:Below q3.heap.size q3 q4:=eq4▸(Below.refl _ _).alloc (Nat.le_refl _) _
          have Lq4:=Lq3.below bq4
          have Oq4:Ofw (fun k=>k=b) W2 q4:=Oq3.trans (Ofw.of_below bq4)
          have nq4:=Oq3.size
          have Xq4:q4.heap[q3.heap.size]?=some (.cells #[.int .i64 a0] 3):=by rw [<-eq4];exact heap_alloc_new q3 _
          have Aq4:=(bq4.block _ (Array.getElem?_eq_some_iff.1 Aq3).1).trans Aq3
          have gq4:=(Array.getElem?_eq_some_iff.1 Xq4).1
          go_simp
          try rw [eq4]
          obtain ⟨X,hX⟩:∃ X,q3.heap.size=X:=⟨_,rfl⟩
          rw [hX] at Xq4
          try rw [hX]
          clear eq4
          have q4_S:=HS.out q4 Oq4
          refine hK.out _ _ ⟨q4_S,fun _=>trivial⟩ ?_
          clear hK K
          try simp only [Act.put,qa,qb,qc]
          have cA:=yd Aq4 0
          have zA:=yt Aq4 0
          refine yo (i:=6) (o:=⟨none,.store 58 (.tmp 5) (.tmp 11),_,_,_,none⟩) (by kernel_rfl) rfl (fun K hK=>?_)
          go_simp
          have hf:=fin.out q4 _ A X Lq4 Oq4 (by omega) (by omega) Aq4 Xq4 rfl
          refine hK.out _ _ ⟨HS.out _ hf.1,fun _=>trivial⟩ ?_
          clear hK K
          try simp only [Act.put,qa,qb,qc]
          refine yY (by kernel_rfl) ⟨rfl,?_⟩ _
          gi_wp2
          gi_meet
          case rel=>exact ⟨A,rfl,hf.2⟩
      · obtain ⟨q2,eq2⟩:∃ V,q1.alloc (.cells #[.slice none 0 0] 58)=V:=⟨_,rfl⟩
        have bq2:Below q1.heap.size q1 q2:=eq2▸(Below.refl _ _).alloc (Nat.le_refl _) _
        have Lq2:=Lq1.below bq2
        have Oq2:Ofw (fun k=>k=b) W2 q2:=Oq1.trans (Ofw.of_below bq2)
        have nq2:=Oq1.size
        have Aq2:q2.heap[q1.heap.size]?=some (.cells #[.slice none 0 0] 58):=by rw [<-eq2];exact heap_alloc_new q1 _
        have gq2:=(Array.getElem?_eq_some_iff.1 Aq2).1
        go_simp
        try rw [eq2]
        obtain ⟨A,hA⟩:∃ A,q1.heap.size=A:=⟨_,rfl⟩
        rw [hA] at Aq2
        try rw [hA]
        clear eq2
        have q2_S:=HS.out q2 Oq2
        refine hK.out _ _ ⟨q2_S,fun _=>trivial⟩ ?_
        clear hK K
        try simp only [Act.put,qa,qb,qc]
        refine yo (i:=3) (o:=⟨some 10,.call { callee:=.value (.tmp 7),args:=#[.tmp 9],argTypes:=#[9] },_,_,_,none⟩) (by kernel_rfl) rfl (fun K hK=>?_)
        go_simp
        gi_wp2_with (refine ⟨trivial,?_⟩;gi_at_call 123;refine (callsIn_wide.2 (HI0.out _ Lq2)).mono ?_;rintro e q3 ⟨rfl,Lq3,oq3⟩)
        have Oq3:Ofw (fun k=>k=b) W2 q3:=Oq2.trans oq3
        have Aq3:=(oq3.block A (Array.getElem?_eq_some_iff.1 Aq2).1 (by omega)).trans Aq2
        have q3_S:=HS.out q3 Oq3
        refine hK.out _ _ ⟨q3_S,fun _=>trivial⟩ ?_
        clear hK K
        try simp only [Act.put,qa,qb,qc]
        refine yo (i:=4) (o:=⟨some 11,.buildSlice 58 1 #[(0,.tmp 10)],_,_,_,none⟩) (by kernel_rfl) rfl (fun K hK=>?_)
        obtain ⟨q4,eq4⟩:∃ V,q3.alloc (.cells #[.int .i64 a0] 3)=V:=⟨_,rfl⟩
        have bq4:Below q3.heap.size q3 q4:=eq4▸(Below.refl _ _).alloc (Nat.le_refl _) _
        have Lq4:=Lq3.below bq4
        have Oq4:Ofw (fun k=>k=b) W2 q4:=Oq3.trans (Ofw.of_below bq4)
        have nq4:=Oq3.size
        have Xq4:q4.heap[q3.heap.size]?=some (.cells #[.int .i64 a0] 3):=by rw [<-eq4];exact heap_alloc_new q3 _
        have Aq4:=(bq4.block _ (Array.getElem?_eq_some_iff.1 Aq3).1).trans Aq3
        have gq4:=(Array.getElem?_eq_some_iff.1 Xq4).1
        go_simp
        try rw [eq4]
        obtain ⟨X,hX⟩:∃ X,q3.heap.size=X:=⟨_,rfl⟩
        rw [hX] at Xq4
        try rw [hX]
        clear eq4
        have q4_S:=HS.out q4 Oq4
        refine hK.out _ _ ⟨q4_S,fun _=>trivial⟩ ?_
        clear hK K
        try simp only [Act.put,qa,qb,qc]
        have cA:=yd Aq4 0
        have zA:=yt Aq4 0
        refine yo (i:=6) (o:=⟨none,.store 58 (.tmp 5) (.tmp 11),_,_,_,none⟩) (by kernel_rfl) rfl (fun K hK=>?_)
        go_simp
        have hf:=fin.out q4 _ A X Lq4 Oq4 (by omega) (by omega) Aq4 Xq4 rfl
        refine hK.out _ _ ⟨HS.out _ hf.1,fun _=>trivial⟩ ?_
        clear hK K
        try simp only [Act.put,qa,qb,qc]
        refine yY (by kernel_rfl) ⟨rfl,?_⟩ _
        gi_wp2
        gi_meet
        case rel=>exact ⟨A,rfl,hf.2⟩
    · obtain ⟨q1,eq1⟩:∃ V,q0.alloc (.cells #[.slice none 0 0] 58)=V:=⟨_,rfl⟩
      have bq1:Below q0.heap.size q0 q1:=eq1▸(Below.refl _ _).alloc (Nat.le_refl _) _
      have Lq1:=Lq0.below bq1
      have Oq1:Ofw (fun k=>k=b) W2 q1:=Oq0.trans (Ofw.of_below bq1)
      have nq1:=Oq0.size
      have Aq1:q1.heap[q0.heap.size]?=some (.cells #[.slice none 0 0] 58):=by rw [<-eq1];exact heap_alloc_new q0 _
      have gq1:=(Array.getElem?_eq_some_iff.1 Aq1).1
      go_simp
      try rw [eq1]
      obtain ⟨A,hA⟩:∃ A,q0.heap.size=A:=⟨_,rfl⟩
      rw [hA] at Aq1
      try rw [hA]
      clear eq1
      have q1_S:=HS.out q1 Oq1
      refine hK.out _ _ ⟨q1_S,fun _=>trivial⟩ ?_
      clear hK K
      try simp only [Act.put,qa,qb,qc]
      refine yo (i:=2) (o:=⟨some 9,.call { callee:=.value (.func 124),args:=#[.tmp 8],argTypes:=#[113] },_,_,_,none⟩) (by kernel_rfl) rfl (fun K hK=>?_)
      go_simp
      gi_wp2_with (refine ⟨trivial,?_⟩;gi_at_call 124;refine (callsIn_wide.2 (HN.out _ Lq1)).mono ?_;rintro e q2 ⟨rfl,Lq2,oq2⟩)
      have Oq2:Ofw (fun k=>k=b) W2 q2:=Oq1.trans oq2
      have Aq2:=(oq2.block A (Array.getElem?_eq_some_iff.1 Aq1).1 (by omega)).trans Aq1
      have q2_S:=HS.out q2 Oq2
      refine hK.out _ _ ⟨q2_S,fun _=>trivial⟩ ?_
      clear hK K
      try simp only [Act.put,qa,qb,qc]
      refine yo (i:=3) (o:=⟨some 10,.call { callee:=.value (.tmp 7),args:=#[.tmp 9],argTypes:=#[9] },_,_,_,none⟩) (by kernel_rfl) rfl (fun K hK=>?_)
      go_simp
      gi_wp2_with (refine ⟨trivial,?_⟩;gi_at_call 123;refine (callsIn_wide.2 (HI0.out _ Lq2)).mono ?_;rintro e q3 ⟨rfl,Lq3,oq3⟩)
      have Oq3:Ofw (fun k=>k=b) W2 q3:=Oq2.trans oq3
      have Aq3:=(oq3.block A (Array.getElem?_eq_some_iff.1 Aq2).1 (by omega)).trans Aq2
      have q3_S:=HS.out q3 Oq3
      refine hK.out _ _ ⟨q3_S,fun _=>trivial⟩ ?_
      clear hK K
      try simp only [Act.put,qa,qb,qc]
      refine yo (i:=4) (o:=⟨some 11,.buildSlice 58 1 #[(0,.tmp 10)],_,_,_,none⟩) (by kernel_rfl) rfl (fun K hK=>?_)
      obtain ⟨q4,eq4⟩:∃ V,q3.alloc (.cells #[.int .i64 a0] 3)=V:=⟨_,rfl⟩
      have bq4:Below q3.heap.size q3 q4:=eq4▸(Below.refl _ _).alloc (Nat.le_refl _) _
      have Lq4:=Lq3.below bq4
      have Oq4:Ofw (fun k=>k=b) W2 q4:=Oq3.trans (Ofw.of_below bq4)
      have nq4:=Oq3.size
      have Xq4:q4.heap[q3.heap.size]?=some (.cells #[.int .i64 a0] 3):=by rw [<-eq4];exact heap_alloc_new q3 _
      have Aq4:=(bq4.block _ (Array.getElem?_eq_some_iff.1 Aq3).1).trans Aq3
      have gq4:=(Array.getElem?_eq_some_iff.1 Xq4).1
      go_simp
      try rw [eq4]
      obtain ⟨X,hX⟩:∃ X,q3.heap.size=X:=⟨_,rfl⟩
      rw [hX] at Xq4
      try rw [hX]
      clear eq4
      have q4_S:=HS.out q4 Oq4
      refine hK.out _ _ ⟨q4_S,fun _=>trivial⟩ ?_
      clear hK K
      try simp only [Act.put,qa,qb,qc]
      have cA:=yd Aq4 0
      have zA:=yt Aq4 0
      refine yo (i:=6) (o:=⟨none,.store 58 (.tmp 5) (.tmp 11),_,_,_,none⟩) (by kernel_rfl) rfl (fun K hK=>?_)
      go_simp
      have hf:=fin.out q4 _ A X Lq4 Oq4 (by omega) (by omega) Aq4 Xq4 rfl
      refine hK.out _ _ ⟨HS.out _ hf.1,fun _=>trivial⟩ ?_
      clear hK K
      try simp only [Act.put,qa,qb,qc]
      refine yY (by kernel_rfl) ⟨rfl,?_⟩ _
      gi_wp2
      gi_meet
      case rel=>exact ⟨A,rfl,hf.2⟩
  case rest=>
    obtain ⟨A,rfl,hA⟩:=hcut
    obtain ⟨hA1,hA2,hln,hof,g,hbx,hg,hgc⟩:=hA.out
    obtain ⟨p1,p2,o1,z1⟩:=HBX.out wc hof
    have c1:wc.cell? ⟨w.heap.size,0,none⟩=some (.pointer (some ⟨b,0,none⟩)):=by rw [yd p1 0];rfl
    have hX:=xT (F:=Fence.wide) (5-1) b wc rfl
    clear hA HBX HL2 HN HI0 hW1 hW2 hb1 hb2 hbw hp2 hq2 hs1 hs2
    gi_wp2_with (refine ⟨trivial,?_⟩;gi_at_call 47;refine hX.mono ?_;rintro e w' ⟨rfl,rfl⟩)
    obtain ⟨W3,hW3⟩:∃ W3,wc.alloc (.cells #[.pointer (some ⟨b,0,none⟩)] 113)=W3:=⟨_,rfl⟩
    rw [hW3]
    obtain ⟨T,hT⟩:∃ T,wc.heap.size=T:=⟨_,rfl⟩
    have hb3:Below wc.heap.size wc W3:=hW3▸(Below.refl _ _).alloc (Nat.le_refl _) _
    have hs3:W3.heap.size=T+1:=by rw [<-hW3,<-hT];simp
    have hB3:W3.heap[T]?=some (.cells #[.pointer (some ⟨b,0,none⟩)] 113):=by rw [<-hT,<-hW3];exact World.alloc_heap_new wc _
    have hT2:w.heap.size+2<=T:=by omega
    have hAT:A<T:=by omega
    have hgT:g<T:=by have:=(Array.getElem?_eq_some_iff.1 hgc).1;omega
    have o3:Ofw (fun k=>k=b) wc W3:=Ofw.of_below hb3
    have hLA:LAt w.heap.size A 58 3 1 W3.heap.size 1 (encL encI [a0]) (.slice (some ⟨g,0,none⟩) 1 1) W3:=by
      refine ⟨(hb3.block _ hA2).trans hbx,Yw ((hb3.block _ (Array.getElem?_eq_some_iff.1 hgc).1).trans hgc) (by omega) rfl,fun g' hg'=>?_⟩
      injection hg' with hg'
      have hg2:g=g':=hg'
      omega
    have hL3:Ln w0 V va b t1 W3:=hln.below hb3
    have hO3:Ofw (fun k=>k=b) w W3:=o1.trans o3
    have hP3:=(hb3.block _ (Array.getElem?_eq_some_iff.1 p1).1).trans p1
    have hQ3:=(hb3.block _ (Array.getElem?_eq_some_iff.1 p2).1).trans p2
    rw [hT]
    rw [hs3] at hLA
    clear hX hW3 c1 hbx hgc hof o1 o3 hln p1 p2 hb3 z1 hT
    refine Ye rfl (by omega) (gf:=105) (lb:=#[.pointer (some ⟨T,0,none⟩)]) rfl trivial (enters_of Tryz.func105 (by kernel_rfl) rfl) (w0:=w0) (V:=V) (va:=va) (b:=b) t1 (T:=fun k=>k=T) (fun k hk=>by omega)
      (fun W hb=>Yf _ (by omega) T W ((hb.block _ (by omega)).trans hB3) (by omega)) rfl
      (fun s' W=>∃ (k:Nat) (all:List Int) (v:Value),LAt w.heap.size A 58 3 1 (T+1) all.length (encL encI all) v W/\Ln w0 V va b s' W/\Ofw (fun k=>k=b) w W/\(W.heap[w.heap.size]?=some (.cells #[.pointer (some ⟨b,0,none⟩)] 113)/\W.heap[w.heap.size+1]?=some (.cells #[.func (.func 123) #[.pointer (some ⟨b,0,none⟩)] #[]] 162)/\W.heap[T]?=some (.cells #[.pointer (some ⟨b,0,none⟩)] 113))/\all.length+k=64/\yK rd k all s'=RR)
      (fun c W=>c=.exit 0/\∃ v,LAt w.heap.size A 58 3 1 (T+1) RR.1.length (encL encI RR.1) v W/\Ln w0 V va b RR.2 W/\Ofw (fun k=>k=b) w W)
      (fun s' W hI=>by obtain ⟨k,all,v,_,h2,_⟩:=hI;exact h2) ?_ ?_ ⟨63,[a0],_,hLA,hL3,hO3,⟨hP3,hQ3,hB3⟩,rfl,HRR.out⟩
      (fun x=>{ tmps:=#[.pointer (some ⟨b,0,none⟩),.func (.func 123) #[.pointer (some ⟨b,0,none⟩)] #[],.pointer (some ⟨w.heap.size,0,none⟩),.pointer (some ⟨w.heap.size+1,0,none⟩),.slice none 0 0,.pointer (some ⟨A,0,none⟩),.string (yc x),u7,u8,u9,u10,u11,.pointer (some ⟨b,0,none⟩),.func (.func 105) #[] #[.pointer (some ⟨T,0,none⟩)],.string (yc x),u15,u16,u17,u18,u19,u20,u21,u22,u23,u24,u25,u26],defers:=[] }) ?assign ?body ?done ?stop
    · rintro s' W W' ⟨k,all,v,hla,hl,ho,⟨hp,hq,ht⟩,hk,hgo⟩ kk
      exact ⟨k,all,v,hla.loop (by omega) (by rw [hs3] at kk;exact kk),hl.keep (fun k hk=>by omega) kk,ho.new kk (fun i hi=>by omega),⟨(kk.block _ (Array.getElem?_eq_some_iff.1 hp).1 (by omega)).trans hp,(kk.block _ (Array.getElem?_eq_some_iff.1 hq).1 (by omega)).trans hq,(kk.block _ (Array.getElem?_eq_some_iff.1 ht).1 (by omega)).trans ht⟩,hk,hgo⟩
    · rintro c W W' ⟨rfl,v,hla,hl,ho⟩ kk
      exact ⟨rfl,v,hla.loop (by omega) (by rw [hs3] at kk;exact kk),hl.keep (fun k hk=>by omega) kk,ho.new kk (fun i hi=>by omega)⟩
    case assign=>
      intro l' x W K hK
      gi_wp2
      exact hK
    case body=>
      rintro l' s' x s1 W Wa ⟨k,all,v,hla,hl,ho,⟨hp,hq,ht⟩,hk,hgo⟩ hx hlna hoa hsz
      rw [hs3] at hoa hsz
      have hbt:W.heap[b]?=some (.cells #[va,.string (yc s'.1),.int .i64 s'.2] 115 (0,0)):=hl.o
      have hAb:A≠b:=by omega
      have hfar:=hla.far
      have hla1:LAt w.heap.size A 58 3 1 (T+1) all.length (encL encI all) v Wa:=
        ⟨(hoa.block A (Array.getElem?_eq_some_iff.1 hla.box).1 (by omega)).trans hla.box,yB hla.row (fun g hg e=>by
          have h1:=hfar g hg
          obtain ⟨h2,cur,hc⟩:=yn hla.row hg
          rcases e with e | e | e
          · rw [e,hbt] at hc;injection hc with hc;injection hc with _ hc _;cases hc
          · exact h1.1 e
          · exact h1.2 e) hoa,hfar⟩
      have hpa:=(hoa.block _ (Array.getElem?_eq_some_iff.1 hp).1 (by omega)).trans hp
      have hqa:=(hoa.block _ (Array.getElem?_eq_some_iff.1 hq).1 (by omega)).trans hq
      have hta:=(hoa.block _ (Array.getElem?_eq_some_iff.1 ht).1 (by omega)).trans ht
      have hoa1:Ofw (fun k=>k=b) w Wa:=ho.new hoa (fun i hi=>by omega)
      obtain ⟨ad,cp,hv⟩:=yq hla1.row
      subst hv
      have cA:Wa.cell? ⟨A,0,none⟩=some (.slice ad all.length cp):=by rw [yd hla1.box 0];rfl
      have c0:Wa.cell? ⟨w.heap.size,0,none⟩=some (.pointer (some ⟨b,0,none⟩)):=by rw [yd hpa 0];rfl
      have c1:Wa.cell? ⟨w.heap.size+1,0,none⟩=some (.func (.func 123) #[.pointer (some ⟨b,0,none⟩)] #[]):=by rw [yd hqa 0];rfl
      have hxl:x.length<=70000:=Nat.le_trans (zf hx).2.1 hl.n
      clear hla hl ho hp hq ht hbt hoa
      cases k with
      | zero =>
        have h64:((all.length:Int)==64)=true:=by simp;omega
        have hR:RR=(all,yh 47 s1):=by rw [<-hgo];unfold yK;rw [hx]
        have HF:Hid (Calls Tryz.prog 109 #[.pointer (some ⟨b,0,none⟩),.int .i64 47] Wa (RO w0 V va b (.tuple #[]) (yh 47 s1) Wa)):=zC 47 Wa hlna
        have HR:Hid (RR=(all,yh 47 s1)):=hR
        have HE:Hid (LAt w.heap.size A 58 3 1 (T+1) all.length (encL encI all) (.slice ad all.length cp) Wa/\Ofw (fun k=>k=b) w Wa/\Wa.heap[b]?=some (.cells #[va,.string (yc s1.1),.int .i64 s1.2] 115 (0,0))):=⟨hla1,hoa1,hlna.o⟩
        have HSz:Hid (T+1+2<=Wa.heap.size):=hsz
        clear hR hgo hla1 hoa1 hlna hpa hqa hta hk hsz
        gi_wp2_with (refine ⟨trivial,?_⟩;gi_at_call 109;refine (zr HF.out).mono ?_;rintro e w3 ⟨rfl,h3,o3⟩;have HV:Hid (Ln w0 V va b (yh 47 s1) w3/\Ofw (fun k=>k=b) Wa w3):=⟨h3,o3⟩;clear h3 o3)
        have hk1:LAt w.heap.size A 58 3 1 (T+1) all.length (encL encI all) (.slice ad all.length cp) w3:=HE.out.1.keep HV.out.2 (fun k hk=>⟨by omega,fun c e=>by
          rw [hk,HE.out.2.2] at e
          injection e with e
          injection e with _ e _
          cases e⟩)
        have hk2:LAt w.heap.size A 58 3 1 (T+1) RR.1.length (encL encI RR.1) (.slice ad all.length cp) w3:=by rw [HR.out];exact hk1
        exact ⟨.inr (.inr ⟨0,rfl,rfl,_,hk2,by rw [HR.out];exact HV.out.1,HE.out.2.1.trans HV.out.2⟩),HV.out.2.size,fun k hk=>HV.out.2.block k (by have:=HSz.out;omega) (by omega)⟩
      | succ k =>
        have h64:((all.length:Int)==64)=false:=by simp;omega
        have hal:all.length<=64:=by omega
        obtain ⟨aa,haa⟩:∃ aa,(rd x s1).1=aa:=⟨_,rfl⟩
        obtain ⟨s2,hs2'⟩:∃ s2,(rd x s1).2=s2:=⟨_,rfl⟩
        have HI1:Hid (∀ w',Ln w0 V va b s1 w'->Calls Tryz.prog 123 #[.pointer (some ⟨b,0,none⟩),.string (yc x)] w' (RO w0 V va b (.int .i64 aa) s2 w')):=fun w' h'=>by
          have:=HI.out s1 x w' h' hxl
          rw [haa,hs2'] at this
          exact this
        have HGo:Hid (yK rd k (all++[aa]) s2=RR):=by
          show _=_
          rw [<-hgo]
          conv=>rhs;unfold yK
          rw [hx]
          simp only [haa,hs2']
        have HM1:Hid (s2.1.length<=s1.1.length):=by rw [<-hs2'];exact HM.out x s1
        have HE:Hid (LAt w.heap.size A 58 3 1 (T+1) all.length (encL encI all) (.slice ad all.length cp) Wa/\Ofw (fun k=>k=b) w Wa/\Wa.heap[b]?=some (.cells #[va,.string (yc s1.1),.int .i64 s1.2] 115 (0,0))/\Ln w0 V va b s1 Wa):=⟨hla1,hoa1,hlna.o,hlna⟩
        have HBx:Hid (Wa.heap[w.heap.size]?=some (.cells #[.pointer (some ⟨b,0,none⟩)] 113)/\Wa.heap[w.heap.size+1]?=some (.cells #[.func (.func 123) #[.pointer (some ⟨b,0,none⟩)] #[]] 162)/\Wa.heap[T]?=some (.cells #[.pointer (some ⟨b,0,none⟩)] 113)):=⟨hpa,hqa,hta⟩
        have HSz:Hid (T+1+2<=Wa.heap.size):=hsz
        have hm:Tryz.prog.follows .mixedOrders=true:=by kernel_rfl
        clear hgo haa hs2' hla1 hoa1 hlna hpa hqa hta
        gi_wp2
        refine zT (fun w'=>w'.cell? ⟨w.heap.size+1,0,none⟩=some (.func (.func 123) #[.pointer (some ⟨b,0,none⟩)] #[])) (fun w'=>w'.cell? ⟨A,0,none⟩=some (.slice ad all.length cp)) [6] hm ⟨c1,cA⟩ (fun hHeld=>?_)
        refine xU (i:=0) (oi:=⟨some 20,.load 58 (.tmp 5),_,_,_,none⟩) (v:=?va) rfl (by kernel_rfl) (by kernel_rfl) (by kernel_rfl) (by kernel_rfl) (by kernel_rfl) (by kernel_rfl) yr ⟨Or.inl ⟨by rfl,?ha⟩,fun _=>rfl,fun _ e=>by cases e⟩ (by assumption) ?ra
        case ha=>(intro w hSw;(try dsimp only at hSw);go_simp;try (with_reducible rfl))
        try simp only [Act.put,qa,qb,qc]
        refine yv (i:=1) (oi:=⟨some 21,.load 162 (.tmp 3),_,_,_,none⟩) (v:=?vb) rfl (by kernel_rfl) (by kernel_rfl) (by kernel_rfl) (by kernel_rfl) (by kernel_rfl) yr ⟨Or.inl ⟨by rfl,?hb⟩,fun _=>rfl,fun _ e=>by cases e⟩ (by assumption) ?rb
        case hb=>(intro w hSw;(try dsimp only at hSw);go_simp;try (with_reducible rfl))
        try simp only [Act.put,qa,qb,qc]
        refine yv (i:=2) (oi:=⟨some 22,.move (.tmp 6),_,_,_,none⟩) (v:=?vc) rfl (by kernel_rfl) (by kernel_rfl) (by kernel_rfl) (by kernel_rfl) (by kernel_rfl) yr ⟨Or.inl ⟨by rfl,?hc⟩,fun _=>rfl,fun _ e=>by cases e⟩ (by assumption) ?rc
        case hc=>(intro w hSw;(try dsimp only at hSw);go_simp;try (with_reducible rfl))
        try simp only [Act.put,qa,qb,qc]
        refine yo (i:=3) (o:=⟨some 23,.call { callee:=.value (.tmp 21),args:=#[.tmp 22],argTypes:=#[9] },_,_,_,none⟩) (by kernel_rfl) rfl (fun K hK=>?_)
        go_simp
        gi_wp2_with (refine ⟨trivial,?_⟩;gi_at_call 123;refine (zr (HI1.out _ (HE.out.2.2.2.below (Below.refl _ _).drew))).mono ?_;rintro e w3 ⟨rfl,h3,o3⟩;have H3:Hid (Ln w0 V va b s2 w3/\Ofw (fun k=>k=b) Wa w3):=⟨h3,(Ofw.of_below (Below.refl _ _).drew).trans o3⟩;clear h3 o3)
        have hla3:LAt w.heap.size A 58 3 1 (T+1) all.length (encL encI all) (.slice ad all.length cp) w3:=HE.out.1.keep H3.out.2 (fun k hk=>⟨by omega,fun c e=>by
          rw [hk,HE.out.2.2.1] at e
          injection e with e
          injection e with _ e _
          cases e⟩)
        have q3:w3.heap[w.heap.size+1]?=some (.cells #[.func (.func 123) #[.pointer (some ⟨b,0,none⟩)] #[]] 162):=(H3.out.2.block _ (Array.getElem?_eq_some_iff.1 HBx.out.2.1).1 (by omega)).trans HBx.out.2.1
        have cA3:w3.cell? ⟨A,0,none⟩=some (.slice ad all.length cp):=by rw [yd hla3.box 0];rfl
        have c13:w3.cell? ⟨w.heap.size+1,0,none⟩=some (.func (.func 123) #[.pointer (some ⟨b,0,none⟩)] #[]):=by rw [yd q3 0];rfl
        refine hK.out _ _ ⟨c13,fun _=>cA3⟩ ?_
        clear hK K
        try simp only [Act.put,qa,qb,qc]
        refine yo (i:=4) (o:=⟨some 24,.buildSlice 58 1 #[(0,.tmp 23)],_,_,_,none⟩) (by kernel_rfl) rfl (fun K hK=>?_)
        obtain ⟨V1,hV1⟩:∃ V1,w3.alloc (.cells #[.int .i64 aa] 3)=V1:=⟨_,rfl⟩
        have bV:Below w3.heap.size w3 V1:=hV1▸(Below.refl _ _).alloc (Nat.le_refl _) _
        go_simp
        try rw [hV1]
        refine hK.out _ _ ⟨(bV.cell (p:=⟨w.heap.size+1,0,none⟩) (Array.getElem?_eq_some_iff.1 q3).1).trans c13,fun _=>(bV.cell (p:=⟨A,0,none⟩) (Array.getElem?_eq_some_iff.1 hla3.box).1).trans cA3⟩ ?_
        clear hK K
        try simp only [Act.put,qa,qb,qc]
        refine yo (i:=5) (o:=⟨some 25,.call { callee:=.builtin .append,args:=#[.tmp 20,.tmp 24],argTypes:=#[58,58] },_,_,_,none⟩) (by kernel_rfl) rfl (fun K hK=>?_)
        have hs3':T+1+2<=w3.heap.size:=Nat.le_trans HSz.out H3.out.2.size
        refine xV w3 V1 (.tmp 20) (.tmp 24) 58 3 (.int .i64 0) 1 8 rfl Tryz.underlying58 (by kernel_rfl) rfl (by decide) w.heap.size (.slice ad all.length cp) all.length (encL encI all) #[.int .i64 aa] (by rfl) (by rfl) hV1 hla3.row rfl (by intro u hu;simp at hu;first | (subst hu;rfl) | (rcases hu with rfl | rfl <;> rfl)) (by unfold maxLen;omega) (by omega) (by omega) (by rfl) ?_
        intro v5 w5 g1 g2 g3
        obtain ⟨P1,P2,P3⟩:=hla3.push (by decide) g1 g2 g3 (by omega)
        obtain ⟨ad5,cp5,hv5⟩:=yq g1
        subst hv5
        have cA5:w5.cell? ⟨A,0,none⟩=some (.slice ad all.length cp):=by rw [yd P3 0];rfl
        have zA5:=yt P3 0
        have ne:∀ k c t,w3.heap[k]?=some (.cells c t (0,0))->t≠3->(Value.slice ad all.length cp).ownBlock≠some k:=fun k c t hk ht e=>by
          obtain ⟨_,cur,hc⟩:=yn hla3.row e
          rw [hk] at hc
          injection hc with hc
          injection hc with _ hc _
          exact ht hc
        have q5:w5.heap[w.heap.size+1]?=some (.cells #[.func (.func 123) #[.pointer (some ⟨b,0,none⟩)] #[]] 162):=(g2.block _ (Array.getElem?_eq_some_iff.1 q3).1 (ne _ _ _ q3 (by decide))).trans q3
        have c15:w5.cell? ⟨w.heap.size+1,0,none⟩=some (.func (.func 123) #[.pointer (some ⟨b,0,none⟩)] #[]):=by rw [yd q5 0];rfl
        refine hK.out _ _ ⟨c15,fun _=>cA5⟩ ?_
        clear hK K
        try simp only [Act.put,qa,qb,qc]
        refine xW (i:=6) (o:=⟨none,.store 58 (.tmp 5) (.tmp 25),_,_,_,none⟩) (by kernel_rfl) rfl (by kernel_rfl) (fun K hK=>?_)
        go_simp
        refine hK.out _ _ (by rw [World.cell?,Below.heap_setCell _ ⟨A,0,none⟩ _ _ (by simp only;omega)];exact c15) ?_
        clear hK K
        try simp only [Act.put,qa,qb,qc]
        refine yY (by kernel_rfl) ⟨rfl,?_⟩ _
        have p3:=(H3.out.2.block _ (Array.getElem?_eq_some_iff.1 HBx.out.1).1 (by omega)).trans HBx.out.1
        have t3:=(H3.out.2.block _ (Array.getElem?_eq_some_iff.1 HBx.out.2.2).1 (by omega)).trans HBx.out.2.2
        have st:∀ k c t,w3.heap[k]?=some (.cells c t (0,0))->t≠3->k≠A->(w5.setCell ⟨A,0,none⟩ (.slice ad5 (all.length+1) cp5)).heap[k]?=some (.cells c t (0,0)):=fun k c t hk ht hkA=>
          (P2.block k (Array.getElem?_eq_some_iff.1 hk).1 (fun e=>e.elim hkA (ne k c t hk ht))).trans hk
        have hl6:Ln w0 V va b s2 (w5.setCell ⟨A,0,none⟩ (.slice ad5 (all.length+1) cp5)):=H3.out.1.keep (fun k hk=>by
          rcases hk with hk | hk
          · omega
          · obtain ⟨h2,_⟩:=yn hla3.row hk
            exact ⟨by omega,fun e=>by omega⟩) P2
        have ho6:Ofw (fun k=>k=b) w (w5.setCell ⟨A,0,none⟩ (.slice ad5 (all.length+1) cp5)):=(HE.out.2.1.trans H3.out.2).new P2 (fun i hi=>by
          rcases hi with hi | hi
          · omega
          · exact .inl (yn hla3.row hi).1)
        have hla6:LAt w.heap.size A 58 3 1 (T+1) (all++[aa]).length (encL encI (all++[aa])) (.slice ad5 (all.length+1) cp5) (w5.setCell ⟨A,0,none⟩ (.slice ad5 (all.length+1) cp5)):=by
          rw [Yx,List.length_append]
          exact P1
        have far:=hla3.far
        have hW3s:=hs3
        have kp:∀ k,(k=T∨k=W3.heap.size∨k=W3.heap.size+1)->(w5.setCell ⟨A,0,none⟩ (.slice ad5 (all.length+1) cp5)).heap[k]?=Wa.heap[k]?:=fun k hk=>by
          have hkA:k≠A:=by omega
          have hkb:k≠b:=by omega
          have hks:k<Wa.heap.size:=by have:=HSz.out;omega
          refine (P2.block k (Nat.lt_of_lt_of_le hks H3.out.2.size) (fun e=>?_)).trans (H3.out.2.block k hks hkb)
          rcases e with e | e
          · exact hkA e
          · rcases hk with hk | hk | hk
            · subst hk;exact ne _ _ _ t3 (by decide) e
            · have:=far k e;omega
            · have:=far k e;omega
        have hsz6:Wa.heap.size<=(w5.setCell ⟨A,0,none⟩ (.slice ad5 (all.length+1) cp5)).heap.size:=Nat.le_trans H3.out.2.size P2.size
        have HX6:=Hid.mk' (And.intro hla6 (And.intro hl6 ho6))
        have HB6:=Hid.mk' (And.intro (st _ _ _ p3 (by decide) (by omega)) (And.intro (st _ _ _ q3 (by decide) (by omega)) (st _ _ _ t3 (by decide) (by omega))))
        have HK6:=Hid.mk' (And.intro hsz6 kp)
        clear P1 P2 P3 g1 g2 g3 hla3 hla6 hl6 ho6 kp st p3 q3 t3 hsz6 ne far
        gi_wp2
        exact ⟨.inl ⟨rfl,s2,⟨k,all++[aa],_,HX6.out.1,HX6.out.2.1,HX6.out.2.2,HB6.out,by simp;omega,HGo.out⟩,HM1.out⟩,HK6.out⟩
    case done=>
      rintro s' W ⟨k,all,v,hla,hl,ho,_,hk,hgo⟩ ht hK
      have hR:RR=(all,s'):=by
        rw [<-hgo]
        cases k <;> (unfold yK;rw [ht])
      have c2:W.cell? ⟨A,0,none⟩=some v:=by rw [yd hla.box 0];rfl
      have HR:Hid (RR=(all,s')):=hR
      clear hR hgo
      gi_wp2
      refine ⟨by simp,.inl ⟨_,_,rfl,run_takeDeferred hK,?_⟩⟩
      have hp:=zd (S:=fun k=>k=W3.heap.size) W W3.heap.size (.deferred none) rfl
      refine ⟨_,results_tmp rfl _ _ _,v,rfl,?_,?_,?_⟩
      · rw [HR.out];exact hl.keep (fun k hk=>by omega) hp
      · exact ho.new hp (fun i hi=>by omega)
      · rw [HR.out];exact yB hla.row (fun g hg e=>by have h1:=hla.far g hg;have e':g=W3.heap.size:=e;omega) hp
    case stop=>
      rintro c W ⟨rfl,v,hla,hl,ho⟩ hK
      have c2:W.cell? ⟨A,0,none⟩=some v:=by rw [yd hla.box 0];rfl
      refine wpIn_exit ?_
      gi_wp2
      refine ⟨by simp,.inl ⟨_,_,rfl,run_takeDeferred hK,?_⟩⟩
      have hp:=zd (S:=fun k=>k=W3.heap.size) W W3.heap.size (.deferred none) rfl
      exact ⟨_,results_tmp rfl _ _ _,v,rfl,hl.keep (fun k hk=>by omega) hp,ho.new hp (fun i hi=>by omega),yB hla.row (fun g hg e=>by have h1:=hla.far g hg;have e':g=W3.heap.size:=e;omega) hp⟩
theorem y3Q {w0:World} {V:List Md.Vr} {va:Value} {b:Nat} {s:St} (w:World) (h:Ln w0 V va b s w):Calls Tryz.prog 125 #[.pointer (some ⟨b,0,none⟩),.func (.func 130) #[.pointer (some ⟨b,0,none⟩)] #[]] w (RL w0 V va b 3 1 (yp yN s).1.length (encL encI (yp yN s).1) (yp yN s).2 w):=by
  obtain ⟨rd,hrd⟩:∃ rd:List UInt8->St->Int × St,yN=rd:=⟨_,rfl⟩
  have HI:Hid (∀ (t:St) (x:List UInt8) w',Ln w0 V va b t w'->x.length<=70000->Calls Tryz.prog 130 #[.pointer (some ⟨b,0,none⟩),.string (yc x)] w' (RO w0 V va b (.int .i64 (rd x t).1) (rd x t).2 w')):=by rw [<-hrd];exact fun t x w' h' hx=>X9 x w' h' hx
  have HM:Hid (∀ (x:List UInt8) (t:St),(rd x t).2.1.length<=t.1.length):=by rw [<-hrd];exact fun x t=>Nat.le_of_eq (congrArg List.length (Zi x t))
  rw [hrd]
  clear hrd
  have HN:Hid (∀ w',Ln w0 V va b s w'->Calls Tryz.prog 124 #[.pointer (some ⟨b,0,none⟩)] w' (RO w0 V va b (.string (yc (ye s).1)) (ye s).2 w')):=fun w' h'=>xq w' h'
  have HXl:Hid ((ye s).1.length<=70000):=(zV h.n).1
  obtain ⟨x0,hx0⟩:∃ x,(ye s).1=x:=⟨_,rfl⟩
  obtain ⟨t0,ht0⟩:∃ t,(ye s).2=t:=⟨_,rfl⟩
  obtain ⟨a0,ha0⟩:∃ a,(rd x0 t0).1=a:=⟨_,rfl⟩
  obtain ⟨t1,ht1⟩:∃ t,(rd x0 t0).2=t:=⟨_,rfl⟩
  obtain ⟨RR,hRR⟩:∃ RR,yK rd 63 [a0] t1=RR:=⟨_,rfl⟩
  have he:yp rd s=RR:=by unfold yp;rw [hx0,ht0,ha0,ht1,hRR]
  have HRR:Hid (yK rd 63 [a0] t1=RR):=hRR
  rw [he]
  rw [hx0,ht0] at HN
  rw [hx0] at HXl
  have HI0:Hid (∀ w',Ln w0 V va b t0 w'->Calls Tryz.prog 130 #[.pointer (some ⟨b,0,none⟩),.string (yc x0)] w' (RO w0 V va b (.int .i64 a0) t1 w')):=fun w' h'=>by
    have:=HI.out t0 x0 w' h' HXl.out
    rw [ha0,ht1] at this
    exact this
  clear hx0 ht0 ha0 ht1 hRR he
  refine (callsIn_wide (n:=5)).1 ?_
  obtain ⟨W1,hW1⟩:∃ W1,w.alloc (.cells #[.pointer (some ⟨b,0,none⟩)] 113)=W1:=⟨_,rfl⟩
  obtain ⟨W2,hW2⟩:∃ W2,W1.alloc (.cells #[.func (.func 130) #[.pointer (some ⟨b,0,none⟩)] #[]] 162)=W2:=⟨_,rfl⟩
  have hb1:Below w.heap.size w W1:=hW1▸(Below.refl _ _).alloc (Nat.le_refl _) _
  have hs1:W1.heap.size=w.heap.size+1:=by rw [<-hW1];simp
  have hb2:Below W1.heap.size W1 W2:=hW2▸(Below.refl _ _).alloc (Nat.le_refl _) _
  have hs2:W2.heap.size=w.heap.size+2:=by rw [<-hW2];simp [hs1]
  have hbw:Below w.heap.size w W2:=hb1.trans (hb2.mono hb1.size)
  have hp2:W2.heap[w.heap.size]?=some (.cells #[.pointer (some ⟨b,0,none⟩)] 113):=(hb2.block _ (by omega)).trans (hW1▸World.alloc_heap_new w _)
  have hq2:W2.heap[w.heap.size+1]?=some (.cells #[.func (.func 130) #[.pointer (some ⟨b,0,none⟩)] #[]] 162):=by rw [<-hs1,<-hW2];exact World.alloc_heap_new W1 _
  have hlt:=h.lt
  have hbg:=h.big
  have HBX:Hid (∀ w',Ofw (fun k=>k=b) W2 w'->w'.heap[w.heap.size]?=some (.cells #[.pointer (some ⟨b,0,none⟩)] 113)/\w'.heap[w.heap.size+1]?=some (.cells #[.func (.func 130) #[.pointer (some ⟨b,0,none⟩)] #[]] 162)/\Ofw (fun k=>k=b) w w'/\w.heap.size+2<=w'.heap.size):=fun w' ho=>
    ⟨(ho.block _ (Array.getElem?_eq_some_iff.1 hp2).1 (by omega)).trans hp2,(ho.block _ (Array.getElem?_eq_some_iff.1 hq2).1 (by omega)).trans hq2,(Ofw.of_below hbw).trans ho,by have:=ho.size;omega⟩
  have HL2:Hid (Ln w0 V va b s W2):=h.below hbw
  have hm:Tryz.prog.follows .mixedOrders=true:=by kernel_rfl
  refine callsIn_of_wp_marks Tryz.func125 rfl trivial ?_ rfl
  simp only [Tryz.ntmps125,List.size_toArray,List.length_cons,List.length_nil,Nat.reduceAdd,Nat.reduceSub,Array.replicate_succ,Array.replicate_zero,List.push_toArray,List.append_toArray,List.nil_append,List.cons_append]
  gi_wp2
  gi_cut [5] from 7 (fun tv wx=>∃ A,tv=.pointer (some ⟨A,0,none⟩)/\Hid (w.heap.size+2<=A/\A<wx.heap.size/\Ln w0 V va b t1 wx/\Ofw (fun k=>k=b) W2 wx/\∃ g,wx.heap[A]?=some (.cells #[.slice (some ⟨g,0,none⟩) 1 1] 58)/\w.heap.size+2<=g/\wx.heap[g]?=some (.cells #[.int .i64 a0] 3)))
  case first=>
    refine zT (fun w'=>w'.cell? ⟨w.heap.size,0,none⟩=some (.pointer (some ⟨b,0,none⟩))/\w'.cell? ⟨w.heap.size+1,0,none⟩=some (.func (.func 130) #[.pointer (some ⟨b,0,none⟩)] #[])) (fun _=>True) [] hm ⟨⟨?_,?_⟩,trivial⟩ (fun hHeld=>?_)
    · exact (by rw [yd hp2 0]:W2.cell? ⟨w.heap.size,0,none⟩=_)
    · exact (by rw [yd hq2 0]:W2.cell? ⟨w.heap.size+1,0,none⟩=_)
    refine yv (i:=0) (oi:=⟨some 7,.load 162 (.tmp 3),_,_,_,none⟩) (v:=?v0) rfl (by kernel_rfl) (by kernel_rfl) (by kernel_rfl) (by kernel_rfl) (by kernel_rfl) yr ⟨Or.inl ⟨by rfl,?h0⟩,fun _=>rfl,fun _ e=>by cases e⟩ (by assumption) ?r0
    case h0=>(intro w hSw;(try dsimp only at hSw);go_simp;try (with_reducible rfl))
    try simp only [Act.put,qa,qb,qc]
    refine yv (i:=1) (oi:=⟨some 8,.load 113 (.tmp 2),_,_,_,none⟩) (v:=?v1) rfl (by kernel_rfl) (by kernel_rfl) (by kernel_rfl) (by kernel_rfl) (by kernel_rfl) yr ⟨Or.inl ⟨by rfl,?h1⟩,fun _=>rfl,fun _ e=>by cases e⟩ (by assumption) ?r1
    case h1=>(intro w hSw;(try dsimp only at hSw);go_simp;try (with_reducible rfl))
    try simp only [Act.put,qa,qb,qc]
    have HS:Hid (∀ w',Ofw (fun k=>k=b) W2 w'->w'.cell? ⟨w.heap.size,0,none⟩=some (.pointer (some ⟨b,0,none⟩))/\w'.cell? ⟨w.heap.size+1,0,none⟩=some (.func (.func 130) #[.pointer (some ⟨b,0,none⟩)] #[])):=fun w' ho=>by
      obtain ⟨p1,p2,_⟩:=HBX.out w' ho
      exact ⟨by rw [yd p1 0];rfl,by rw [yd p2 0];rfl⟩
    have fin:Hid (∀ (wq wf:World) (A X:Nat),Ln w0 V va b t1 wq->Ofw (fun k=>k=b) W2 wq->w.heap.size+2<=A->w.heap.size+2<=X->wq.heap[A]?=some (.cells #[.slice none 0 0] 58)->wq.heap[X]?=some (.cells #[.int .i64 a0] 3)->wf=wq.setCell ⟨A,0,none⟩ (.slice (some ⟨X,0,none⟩) 1 1) ->
        Ofw (fun k=>k=b) W2 wf/\(w.heap.size+2<=A/\A<wf.heap.size/\Ln w0 V va b t1 wf/\Ofw (fun k=>k=b) W2 wf/\∃ g,wf.heap[A]?=some (.cells #[.slice (some ⟨g,0,none⟩) 1 1] 58)/\w.heap.size+2<=g/\wf.heap[g]?=some (.cells #[.int .i64 a0] 3))):=fun wq wf A X hl ho hA hX cA cX e=>by
      have o6:Ofw (fun k=>k=A) wq wf:=e▸Ofw.set _ rfl
      have of:Ofw (fun k=>k=b) W2 wf:=ho.new o6 (fun i hi=>by omega)
      have hAX:X≠A:=fun e=>by rw [e,cA] at cX;injection cX with cX;injection cX with _ cX _;cases cX
      refine ⟨of,hA,Nat.lt_of_lt_of_le (Array.getElem?_eq_some_iff.1 cA).1 o6.size,hl.keep (fun k hk=>by omega) o6,of,X,e▸yC cA 0 _,hX,(o6.block X (Array.getElem?_eq_some_iff.1 cX).1 hAX).trans cX⟩
    obtain ⟨q0,hq0⟩:∃ q,W2.drew=q:=⟨_,rfl⟩
    have Lq0:Ln w0 V va b s q0:=hq0▸HL2.out.below (Below.refl _ _).drew
    have Oq0:Ofw (fun k=>k=b) W2 q0:=hq0▸Ofw.of_below (Below.refl _ _).drew
    rw [hq0]
    clear hHeld hW1 hW2 hb1 hb2 hbw hp2 hq2 hq0
    refine zW (i:=2) (j:=5) (o:=⟨some 9,.call { callee:=.value (.func 124),args:=#[.tmp 8],argTypes:=#[113] },_,_,_,none⟩) (o':=⟨some 5,.alloc 58,_,_,_,none⟩) (by kernel_rfl) rfl rfl (fun K hK=>?_) (fun K hK=>?_)
    · go_simp
      gi_wp2_with (refine ⟨trivial,?_⟩;gi_at_call 124;refine (callsIn_wide.2 (HN.out _ Lq0)).mono ?_;rintro e q1 ⟨rfl,Lq1,oq1⟩)
      have Oq1:Ofw (fun k=>k=b) W2 q1:=Oq0.trans oq1
      have q1_S:=HS.out q1 Oq1
      refine hK.out _ _ ⟨q1_S,fun _=>trivial⟩ ?_
      clear hK K
      try simp only [Act.put,qa,qb,qc]
      refine zW (i:=3) (j:=5) (o:=⟨some 10,.call { callee:=.value (.tmp 7),args:=#[.tmp 9],argTypes:=#[9] },_,_,_,none⟩) (o':=⟨some 5,.alloc 58,_,_,_,none⟩) (by kernel_rfl) rfl rfl (fun K hK=>?_) (fun K hK=>?_)
      · go_simp
        gi_wp2_with (refine ⟨trivial,?_⟩;gi_at_call 130;refine (callsIn_wide.2 (HI0.out _ Lq1)).mono ?_;rintro e q2 ⟨rfl,Lq2,oq2⟩)
        have Oq2:Ofw (fun k=>k=b) W2 q2:=Oq1.trans oq2
        have q2_S:=HS.out q2 Oq2
        refine hK.out _ _ ⟨q2_S,fun _=>trivial⟩ ?_
        clear hK K
        try simp only [Act.put,qa,qb,qc]
        refine zW (i:=4) (j:=5) (o:=⟨some 11,.buildSlice 58 1 #[(0,.tmp 10)],_,_,_,none⟩) (o':=⟨some 5,.alloc 58,_,_,_,none⟩) (by kernel_rfl) rfl rfl (fun K hK=>?_) (fun K hK=>?_)
        · obtain ⟨q3,eq3⟩:∃ V,q2.alloc (.cells #[.int .i64 a0] 3)=V:=⟨_,rfl⟩
          have bq3:Below q2.heap.size q2 q3:=eq3▸(Below.refl _ _).alloc (Nat.le_refl _) _
          have Lq3:=Lq2.below bq3
          have Oq3:Ofw (fun k=>k=b) W2 q3:=Oq2.trans (Ofw.of_below bq3)
          have nq3:=Oq2.size
          have Xq3:q3.heap[q2.heap.size]?=some (.cells #[.int .i64 a0] 3):=by rw [<-eq3];exact heap_alloc_new q2 _
          have gq3:=(Array.getElem?_eq_some_iff.1 Xq3).1
          go_simp
          try rw [eq3]
          obtain ⟨X,hX⟩:∃ X,q2.heap.size=X:=⟨_,rfl⟩
          rw [hX] at Xq3
          try rw [hX]
          clear eq3
          have q3_S:=HS.out q3 Oq3
          refine hK.out _ _ ⟨q3_S,fun _=>trivial⟩ ?_
          clear hK K
          try simp only [Act.put,qa,qb,qc]
          refine yo (i:=5) (o:=⟨some 5,.alloc 58,_,_,_,none⟩) (by kernel_rfl) rfl (fun K hK=>?_)
          obtain ⟨q4,eq4⟩:∃ V,q3.alloc (.cells #[.slice none 0 0] 58)=V:=⟨_,rfl⟩
          have bq4:Below q3.heap.size q3 q4:=eq4▸(Below.refl _ _).alloc (Nat.le_refl _) _
          have Lq4:=Lq3.below bq4
          have Oq4:Ofw (fun k=>k=b) W2 q4:=Oq3.trans (Ofw.of_below bq4)
          have nq4:=Oq3.size
          have Aq4:q4.heap[q3.heap.size]?=some (.cells #[.slice none 0 0] 58):=by rw [<-eq4];exact heap_alloc_new q3 _
          have Xq4:=(bq4.block _ (Array.getElem?_eq_some_iff.1 Xq3).1).trans Xq3
          have gq4:=(Array.getElem?_eq_some_iff.1 Aq4).1
          go_simp
          try rw [eq4]
          obtain ⟨A,hA⟩:∃ A,q3.heap.size=A:=⟨_,rfl⟩
          rw [hA] at Aq4
          try rw [hA]
          clear eq4
          have q4_S:=HS.out q4 Oq4
          refine hK.out _ _ ⟨q4_S,fun _=>trivial⟩ ?_
          clear hK K
          try simp only [Act.put,qa,qb,qc]
          have cA:=yd Aq4 0
          have zA:=yt Aq4 0
          refine yo (i:=6) (o:=⟨none,.store 58 (.tmp 5) (.tmp 11),_,_,_,none⟩) (by kernel_rfl) rfl (fun K hK=>?_)
          go_simp
          have hf:=fin.out q4 _ A X Lq4 Oq4 (by omega) (by omega) Aq4 Xq4 rfl
          refine hK.out _ _ ⟨HS.out _ hf.1,fun _=>trivial⟩ ?_
          clear hK K
          try simp only [Act.put,qa,qb,qc]
          refine yY (by kernel_rfl) ⟨rfl,?_⟩ _
          gi_wp2
          gi_meet
          case rel=>exact ⟨A,rfl,hf.2⟩
        · obtain ⟨q3,eq3⟩:∃ V,q2.alloc (.cells #[.slice none 0 0] 58)=V:=⟨_,rfl⟩
          have bq3:Below q2.heap.size q2 q3:=eq3▸(Below.refl _ _).alloc (Nat.le_refl _) _
          have Lq3:=Lq2.below bq3
          have Oq3:Ofw (fun k=>k=b) W2 q3:=Oq2.trans (Ofw.of_below bq3)
          have nq3:=Oq2.size
          have Aq3:q3.heap[q2.heap.size]?=some (.cells #[.slice none 0 0] 58):=by rw [<-eq3];exact heap_alloc_new q2 _
          have gq3:=(Array.getElem?_eq_some_iff.1 Aq3).1
          go_simp
          try rw [eq3]
          obtain ⟨A,hA⟩:∃ A,q2.heap.size=A:=⟨_,rfl⟩
          rw [hA] at Aq3
          try rw [hA]
          clear eq3
          have q3_S:=HS.out q3 Oq3
          refine hK.out _ _ ⟨q3_S,fun _=>trivial⟩ ?_
          clear hK K
          try simp only [Act.put,qa,qb,qc]
          refine yo (i:=4) (o:=⟨some 11,.buildSlice 58 1 #[(0,.tmp 10)],_,_,_,none⟩) (by kernel_rfl) rfl (fun K hK=>?_)
          obtain ⟨q4,eq4⟩:∃ V,q3.alloc (.cells #[.int .i64 a0] 3)=V:=⟨_,rfl⟩
          have bq4:Below q3.heap.size q3 q4:=eq4▸(Below.refl _ _).alloc (Nat.le_refl _) _
          have Lq4:=Lq3.below bq4
          have Oq4:Ofw (fun k=>k=b) W2 q4:=Oq3.trans (Ofw.of_below bq4)
          have nq4:=Oq3.size
          have Xq4:q4.heap[q3.heap.size]?=some (.cells #[.int .i64 a0] 3):=by rw [<-eq4];exact heap_alloc_new q3 _
          have Aq4:=(bq4.block _ (Array.getElem?_eq_some_iff.1 Aq3).1).trans Aq3
          have gq4:=(Array.getElem?_eq_some_iff.1 Xq4).1
          go_simp
          try rw [eq4]
          obtain ⟨X,hX⟩:∃ X,q3.heap.size=X:=⟨_,rfl⟩
          rw [hX] at Xq4
          try rw [hX]
          clear eq4
          have q4_S:=HS.out q4 Oq4
          refine hK.out _ _ ⟨q4_S,fun _=>trivial⟩ ?_
          clear hK K
          try simp only [Act.put,qa,qb,qc]
          have cA:=yd Aq4 0
          have zA:=yt Aq4 0
          refine yo (i:=6) (o:=⟨none,.store 58 (.tmp 5) (.tmp 11),_,_,_,none⟩) (by kernel_rfl) rfl (fun K hK=>?_)
          go_simp
          have hf:=fin.out q4 _ A X Lq4 Oq4 (by omega) (by omega) Aq4 Xq4 rfl
          refine hK.out _ _ ⟨HS.out _ hf.1,fun _=>trivial⟩ ?_
          clear hK K
          try simp only [Act.put,qa,qb,qc]
          refine yY (by kernel_rfl) ⟨rfl,?_⟩ _
          gi_wp2
          gi_meet
          case rel=>exact ⟨A,rfl,hf.2⟩
      · obtain ⟨q2,eq2⟩:∃ V,q1.alloc (.cells #[.slice none 0 0] 58)=V:=⟨_,rfl⟩
        have bq2:Below q1.heap.size q1 q2:=eq2▸(Below.refl _ _).alloc (Nat.le_refl _) _
        have Lq2:=Lq1.below bq2
        have Oq2:Ofw (fun k=>k=b) W2 q2:=Oq1.trans (Ofw.of_below bq2)
        have nq2:=Oq1.size
        have Aq2:q2.heap[q1.heap.size]?=some (.cells #[.slice none 0 0] 58):=by rw [<-eq2];exact heap_alloc_new q1 _
        have gq2:=(Array.getElem?_eq_some_iff.1 Aq2).1
        go_simp
        try rw [eq2]
        obtain ⟨A,hA⟩:∃ A,q1.heap.size=A:=⟨_,rfl⟩
        rw [hA] at Aq2
        try rw [hA]
        clear eq2
        have q2_S:=HS.out q2 Oq2
        refine hK.out _ _ ⟨q2_S,fun _=>trivial⟩ ?_
        clear hK K
        try simp only [Act.put,qa,qb,qc]
        refine yo (i:=3) (o:=⟨some 10,.call { callee:=.value (.tmp 7),args:=#[.tmp 9],argTypes:=#[9] },_,_,_,none⟩) (by kernel_rfl) rfl (fun K hK=>?_)
        go_simp
        gi_wp2_with (refine ⟨trivial,?_⟩;gi_at_call 130;refine (callsIn_wide.2 (HI0.out _ Lq2)).mono ?_;rintro e q3 ⟨rfl,Lq3,oq3⟩)
        have Oq3:Ofw (fun k=>k=b) W2 q3:=Oq2.trans oq3
        have Aq3:=(oq3.block A (Array.getElem?_eq_some_iff.1 Aq2).1 (by omega)).trans Aq2
        have q3_S:=HS.out q3 Oq3
        refine hK.out _ _ ⟨q3_S,fun _=>trivial⟩ ?_
        clear hK K
        try simp only [Act.put,qa,qb,qc]
        refine yo (i:=4) (o:=⟨some 11,.buildSlice 58 1 #[(0,.tmp 10)],_,_,_,none⟩) (by kernel_rfl) rfl (fun K hK=>?_)
        obtain ⟨q4,eq4⟩:∃ V,q3.alloc (.cells #[.int .i64 a0] 3)=V:=⟨_,rfl⟩
        have bq4:Below q3.heap.size q3 q4:=eq4▸(Below.refl _ _).alloc (Nat.le_refl _) _
        have Lq4:=Lq3.below bq4
        have Oq4:Ofw (fun k=>k=b) W2 q4:=Oq3.trans (Ofw.of_below bq4)
        have nq4:=Oq3.size
        have Xq4:q4.heap[q3.heap.size]?=some (.cells #[.int .i64 a0] 3):=by rw [<-eq4];exact heap_alloc_new q3 _
        have Aq4:=(bq4.block _ (Array.getElem?_eq_some_iff.1 Aq3).1).trans Aq3
        have gq4:=(Array.getElem?_eq_some_iff.1 Xq4).1
        go_simp
        try rw [eq4]
        obtain ⟨X,hX⟩:∃ X,q3.heap.size=X:=⟨_,rfl⟩
        rw [hX] at Xq4
        try rw [hX]
        clear eq4
        have q4_S:=HS.out q4 Oq4
        refine hK.out _ _ ⟨q4_S,fun _=>trivial⟩ ?_
        clear hK K
        try simp only [Act.put,qa,qb,qc]
        have cA:=yd Aq4 0
        have zA:=yt Aq4 0
        refine yo (i:=6) (o:=⟨none,.store 58 (.tmp 5) (.tmp 11),_,_,_,none⟩) (by kernel_rfl) rfl (fun K hK=>?_)
        go_simp
        have hf:=fin.out q4 _ A X Lq4 Oq4 (by omega) (by omega) Aq4 Xq4 rfl
        refine hK.out _ _ ⟨HS.out _ hf.1,fun _=>trivial⟩ ?_
        clear hK K
        try simp only [Act.put,qa,qb,qc]
        refine yY (by kernel_rfl) ⟨rfl,?_⟩ _
        gi_wp2
        gi_meet
        case rel=>exact ⟨A,rfl,hf.2⟩
    · obtain ⟨q1,eq1⟩:∃ V,q0.alloc (.cells #[.slice none 0 0] 58)=V:=⟨_,rfl⟩
      have bq1:Below q0.heap.size q0 q1:=eq1▸(Below.refl _ _).alloc (Nat.le_refl _) _
      have Lq1:=Lq0.below bq1
      have Oq1:Ofw (fun k=>k=b) W2 q1:=Oq0.trans (Ofw.of_below bq1)
      have nq1:=Oq0.size
      have Aq1:q1.heap[q0.heap.size]?=some (.cells #[.slice none 0 0] 58):=by rw [<-eq1];exact heap_alloc_new q0 _
      have gq1:=(Array.getElem?_eq_some_iff.1 Aq1).1
      go_simp
      try rw [eq1]
      obtain ⟨A,hA⟩:∃ A,q0.heap.size=A:=⟨_,rfl⟩
      rw [hA] at Aq1
      try rw [hA]
      clear eq1
      have q1_S:=HS.out q1 Oq1
      refine hK.out _ _ ⟨q1_S,fun _=>trivial⟩ ?_
      clear hK K
      try simp only [Act.put,qa,qb,qc]
      refine yo (i:=2) (o:=⟨some 9,.call { callee:=.value (.func 124),args:=#[.tmp 8],argTypes:=#[113] },_,_,_,none⟩) (by kernel_rfl) rfl (fun K hK=>?_)
      go_simp
      gi_wp2_with (refine ⟨trivial,?_⟩;gi_at_call 124;refine (callsIn_wide.2 (HN.out _ Lq1)).mono ?_;rintro e q2 ⟨rfl,Lq2,oq2⟩)
      have Oq2:Ofw (fun k=>k=b) W2 q2:=Oq1.trans oq2
      have Aq2:=(oq2.block A (Array.getElem?_eq_some_iff.1 Aq1).1 (by omega)).trans Aq1
      have q2_S:=HS.out q2 Oq2
      refine hK.out _ _ ⟨q2_S,fun _=>trivial⟩ ?_
      clear hK K
      try simp only [Act.put,qa,qb,qc]
      refine yo (i:=3) (o:=⟨some 10,.call { callee:=.value (.tmp 7),args:=#[.tmp 9],argTypes:=#[9] },_,_,_,none⟩) (by kernel_rfl) rfl (fun K hK=>?_)
      go_simp
      gi_wp2_with (refine ⟨trivial,?_⟩;gi_at_call 130;refine (callsIn_wide.2 (HI0.out _ Lq2)).mono ?_;rintro e q3 ⟨rfl,Lq3,oq3⟩)
      have Oq3:Ofw (fun k=>k=b) W2 q3:=Oq2.trans oq3
      have Aq3:=(oq3.block A (Array.getElem?_eq_some_iff.1 Aq2).1 (by omega)).trans Aq2
      have q3_S:=HS.out q3 Oq3
      refine hK.out _ _ ⟨q3_S,fun _=>trivial⟩ ?_
      clear hK K
      try simp only [Act.put,qa,qb,qc]
      refine yo (i:=4) (o:=⟨some 11,.buildSlice 58 1 #[(0,.tmp 10)],_,_,_,none⟩) (by kernel_rfl) rfl (fun K hK=>?_)
      obtain ⟨q4,eq4⟩:∃ V,q3.alloc (.cells #[.int .i64 a0] 3)=V:=⟨_,rfl⟩
      have bq4:Below q3.heap.size q3 q4:=eq4▸(Below.refl _ _).alloc (Nat.le_refl _) _
      have Lq4:=Lq3.below bq4
      have Oq4:Ofw (fun k=>k=b) W2 q4:=Oq3.trans (Ofw.of_below bq4)
      have nq4:=Oq3.size
      have Xq4:q4.heap[q3.heap.size]?=some (.cells #[.int .i64 a0] 3):=by rw [<-eq4];exact heap_alloc_new q3 _
      have Aq4:=(bq4.block _ (Array.getElem?_eq_some_iff.1 Aq3).1).trans Aq3
      have gq4:=(Array.getElem?_eq_some_iff.1 Xq4).1
      go_simp
      try rw [eq4]
      obtain ⟨X,hX⟩:∃ X,q3.heap.size=X:=⟨_,rfl⟩
      rw [hX] at Xq4
      try rw [hX]
      clear eq4
      have q4_S:=HS.out q4 Oq4
      refine hK.out _ _ ⟨q4_S,fun _=>trivial⟩ ?_
      clear hK K
      try simp only [Act.put,qa,qb,qc]
      have cA:=yd Aq4 0
      have zA:=yt Aq4 0
      refine yo (i:=6) (o:=⟨none,.store 58 (.tmp 5) (.tmp 11),_,_,_,none⟩) (by kernel_rfl) rfl (fun K hK=>?_)
      go_simp
      have hf:=fin.out q4 _ A X Lq4 Oq4 (by omega) (by omega) Aq4 Xq4 rfl
      refine hK.out _ _ ⟨HS.out _ hf.1,fun _=>trivial⟩ ?_
      clear hK K
      try simp only [Act.put,qa,qb,qc]
      refine yY (by kernel_rfl) ⟨rfl,?_⟩ _
      gi_wp2
      gi_meet
      case rel=>exact ⟨A,rfl,hf.2⟩
  case rest=>
    obtain ⟨A,rfl,hA⟩:=hcut
    obtain ⟨hA1,hA2,hln,hof,g,hbx,hg,hgc⟩:=hA.out
    obtain ⟨p1,p2,o1,z1⟩:=HBX.out wc hof
    have c1:wc.cell? ⟨w.heap.size,0,none⟩=some (.pointer (some ⟨b,0,none⟩)):=by rw [yd p1 0];rfl
    have hX:=xT (F:=Fence.wide) (5-1) b wc rfl
    clear hA HBX HL2 HN HI0 hW1 hW2 hb1 hb2 hbw hp2 hq2 hs1 hs2
    gi_wp2_with (refine ⟨trivial,?_⟩;gi_at_call 47;refine hX.mono ?_;rintro e w' ⟨rfl,rfl⟩)
    obtain ⟨W3,hW3⟩:∃ W3,wc.alloc (.cells #[.pointer (some ⟨b,0,none⟩)] 113)=W3:=⟨_,rfl⟩
    rw [hW3]
    obtain ⟨T,hT⟩:∃ T,wc.heap.size=T:=⟨_,rfl⟩
    have hb3:Below wc.heap.size wc W3:=hW3▸(Below.refl _ _).alloc (Nat.le_refl _) _
    have hs3:W3.heap.size=T+1:=by rw [<-hW3,<-hT];simp
    have hB3:W3.heap[T]?=some (.cells #[.pointer (some ⟨b,0,none⟩)] 113):=by rw [<-hT,<-hW3];exact World.alloc_heap_new wc _
    have hT2:w.heap.size+2<=T:=by omega
    have hAT:A<T:=by omega
    have hgT:g<T:=by have:=(Array.getElem?_eq_some_iff.1 hgc).1;omega
    have o3:Ofw (fun k=>k=b) wc W3:=Ofw.of_below hb3
    have hLA:LAt w.heap.size A 58 3 1 W3.heap.size 1 (encL encI [a0]) (.slice (some ⟨g,0,none⟩) 1 1) W3:=by
      refine ⟨(hb3.block _ hA2).trans hbx,Yw ((hb3.block _ (Array.getElem?_eq_some_iff.1 hgc).1).trans hgc) (by omega) rfl,fun g' hg'=>?_⟩
      injection hg' with hg'
      have hg2:g=g':=hg'
      omega
    have hL3:Ln w0 V va b t1 W3:=hln.below hb3
    have hO3:Ofw (fun k=>k=b) w W3:=o1.trans o3
    have hP3:=(hb3.block _ (Array.getElem?_eq_some_iff.1 p1).1).trans p1
    have hQ3:=(hb3.block _ (Array.getElem?_eq_some_iff.1 p2).1).trans p2
    rw [hT]
    rw [hs3] at hLA
    clear hX hW3 c1 hbx hgc hof o1 o3 hln p1 p2 hb3 z1 hT
    refine Ye rfl (by omega) (gf:=105) (lb:=#[.pointer (some ⟨T,0,none⟩)]) rfl trivial (enters_of Tryz.func105 (by kernel_rfl) rfl) (w0:=w0) (V:=V) (va:=va) (b:=b) t1 (T:=fun k=>k=T) (fun k hk=>by omega)
      (fun W hb=>Yf _ (by omega) T W ((hb.block _ (by omega)).trans hB3) (by omega)) rfl
      (fun s' W=>∃ (k:Nat) (all:List Int) (v:Value),LAt w.heap.size A 58 3 1 (T+1) all.length (encL encI all) v W/\Ln w0 V va b s' W/\Ofw (fun k=>k=b) w W/\(W.heap[w.heap.size]?=some (.cells #[.pointer (some ⟨b,0,none⟩)] 113)/\W.heap[w.heap.size+1]?=some (.cells #[.func (.func 130) #[.pointer (some ⟨b,0,none⟩)] #[]] 162)/\W.heap[T]?=some (.cells #[.pointer (some ⟨b,0,none⟩)] 113))/\all.length+k=64/\yK rd k all s'=RR)
      (fun c W=>c=.exit 0/\∃ v,LAt w.heap.size A 58 3 1 (T+1) RR.1.length (encL encI RR.1) v W/\Ln w0 V va b RR.2 W/\Ofw (fun k=>k=b) w W)
      (fun s' W hI=>by obtain ⟨k,all,v,_,h2,_⟩:=hI;exact h2) ?_ ?_ ⟨63,[a0],_,hLA,hL3,hO3,⟨hP3,hQ3,hB3⟩,rfl,HRR.out⟩
      (fun x=>{ tmps:=#[.pointer (some ⟨b,0,none⟩),.func (.func 130) #[.pointer (some ⟨b,0,none⟩)] #[],.pointer (some ⟨w.heap.size,0,none⟩),.pointer (some ⟨w.heap.size+1,0,none⟩),.slice none 0 0,.pointer (some ⟨A,0,none⟩),.string (yc x),u7,u8,u9,u10,u11,.pointer (some ⟨b,0,none⟩),.func (.func 105) #[] #[.pointer (some ⟨T,0,none⟩)],.string (yc x),u15,u16,u17,u18,u19,u20,u21,u22,u23,u24,u25,u26],defers:=[] }) ?assign ?body ?done ?stop
    · rintro s' W W' ⟨k,all,v,hla,hl,ho,⟨hp,hq,ht⟩,hk,hgo⟩ kk
      exact ⟨k,all,v,hla.loop (by omega) (by rw [hs3] at kk;exact kk),hl.keep (fun k hk=>by omega) kk,ho.new kk (fun i hi=>by omega),⟨(kk.block _ (Array.getElem?_eq_some_iff.1 hp).1 (by omega)).trans hp,(kk.block _ (Array.getElem?_eq_some_iff.1 hq).1 (by omega)).trans hq,(kk.block _ (Array.getElem?_eq_some_iff.1 ht).1 (by omega)).trans ht⟩,hk,hgo⟩
    · rintro c W W' ⟨rfl,v,hla,hl,ho⟩ kk
      exact ⟨rfl,v,hla.loop (by omega) (by rw [hs3] at kk;exact kk),hl.keep (fun k hk=>by omega) kk,ho.new kk (fun i hi=>by omega)⟩
    case assign=>
      intro l' x W K hK
      gi_wp2
      exact hK
    case body=>
      rintro l' s' x s1 W Wa ⟨k,all,v,hla,hl,ho,⟨hp,hq,ht⟩,hk,hgo⟩ hx hlna hoa hsz
      rw [hs3] at hoa hsz
      have hbt:W.heap[b]?=some (.cells #[va,.string (yc s'.1),.int .i64 s'.2] 115 (0,0)):=hl.o
      have hAb:A≠b:=by omega
      have hfar:=hla.far
      have hla1:LAt w.heap.size A 58 3 1 (T+1) all.length (encL encI all) v Wa:=
        ⟨(hoa.block A (Array.getElem?_eq_some_iff.1 hla.box).1 (by omega)).trans hla.box,yB hla.row (fun g hg e=>by
          have h1:=hfar g hg
          obtain ⟨h2,cur,hc⟩:=yn hla.row hg
          rcases e with e | e | e
          · rw [e,hbt] at hc;injection hc with hc;injection hc with _ hc _;cases hc
          · exact h1.1 e
          · exact h1.2 e) hoa,hfar⟩
      have hpa:=(hoa.block _ (Array.getElem?_eq_some_iff.1 hp).1 (by omega)).trans hp
      have hqa:=(hoa.block _ (Array.getElem?_eq_some_iff.1 hq).1 (by omega)).trans hq
      have hta:=(hoa.block _ (Array.getElem?_eq_some_iff.1 ht).1 (by omega)).trans ht
      have hoa1:Ofw (fun k=>k=b) w Wa:=ho.new hoa (fun i hi=>by omega)
      obtain ⟨ad,cp,hv⟩:=yq hla1.row
      subst hv
      have cA:Wa.cell? ⟨A,0,none⟩=some (.slice ad all.length cp):=by rw [yd hla1.box 0];rfl
      have c0:Wa.cell? ⟨w.heap.size,0,none⟩=some (.pointer (some ⟨b,0,none⟩)):=by rw [yd hpa 0];rfl
      have c1:Wa.cell? ⟨w.heap.size+1,0,none⟩=some (.func (.func 130) #[.pointer (some ⟨b,0,none⟩)] #[]):=by rw [yd hqa 0];rfl
      have hxl:x.length<=70000:=Nat.le_trans (zf hx).2.1 hl.n
      clear hla hl ho hp hq ht hbt hoa
      cases k with
      | zero =>
        have h64:((all.length:Int)==64)=true:=by simp;omega
        have hR:RR=(all,yh 47 s1):=by rw [<-hgo];unfold yK;rw [hx]
        have HF:Hid (Calls Tryz.prog 109 #[.pointer (some ⟨b,0,none⟩),.int .i64 47] Wa (RO w0 V va b (.tuple #[]) (yh 47 s1) Wa)):=zC 47 Wa hlna
        have HR:Hid (RR=(all,yh 47 s1)):=hR
        have HE:Hid (LAt w.heap.size A 58 3 1 (T+1) all.length (encL encI all) (.slice ad all.length cp) Wa/\Ofw (fun k=>k=b) w Wa/\Wa.heap[b]?=some (.cells #[va,.string (yc s1.1),.int .i64 s1.2] 115 (0,0))):=⟨hla1,hoa1,hlna.o⟩
        have HSz:Hid (T+1+2<=Wa.heap.size):=hsz
        clear hR hgo hla1 hoa1 hlna hpa hqa hta hk hsz
        gi_wp2_with (refine ⟨trivial,?_⟩;gi_at_call 109;refine (zr HF.out).mono ?_;rintro e w3 ⟨rfl,h3,o3⟩;have HV:Hid (Ln w0 V va b (yh 47 s1) w3/\Ofw (fun k=>k=b) Wa w3):=⟨h3,o3⟩;clear h3 o3)
        have hk1:LAt w.heap.size A 58 3 1 (T+1) all.length (encL encI all) (.slice ad all.length cp) w3:=HE.out.1.keep HV.out.2 (fun k hk=>⟨by omega,fun c e=>by
          rw [hk,HE.out.2.2] at e
          injection e with e
          injection e with _ e _
          cases e⟩)
        have hk2:LAt w.heap.size A 58 3 1 (T+1) RR.1.length (encL encI RR.1) (.slice ad all.length cp) w3:=by rw [HR.out];exact hk1
        exact ⟨.inr (.inr ⟨0,rfl,rfl,_,hk2,by rw [HR.out];exact HV.out.1,HE.out.2.1.trans HV.out.2⟩),HV.out.2.size,fun k hk=>HV.out.2.block k (by have:=HSz.out;omega) (by omega)⟩
      | succ k =>
        have h64:((all.length:Int)==64)=false:=by simp;omega
        have hal:all.length<=64:=by omega
        obtain ⟨aa,haa⟩:∃ aa,(rd x s1).1=aa:=⟨_,rfl⟩
        obtain ⟨s2,hs2'⟩:∃ s2,(rd x s1).2=s2:=⟨_,rfl⟩
        have HI1:Hid (∀ w',Ln w0 V va b s1 w'->Calls Tryz.prog 130 #[.pointer (some ⟨b,0,none⟩),.string (yc x)] w' (RO w0 V va b (.int .i64 aa) s2 w')):=fun w' h'=>by
          have:=HI.out s1 x w' h' hxl
          rw [haa,hs2'] at this
          exact this
        have HGo:Hid (yK rd k (all++[aa]) s2=RR):=by
          show _=_
          rw [<-hgo]
          conv=>rhs;unfold yK
          rw [hx]
          simp only [haa,hs2']
        have HM1:Hid (s2.1.length<=s1.1.length):=by rw [<-hs2'];exact HM.out x s1
        have HE:Hid (LAt w.heap.size A 58 3 1 (T+1) all.length (encL encI all) (.slice ad all.length cp) Wa/\Ofw (fun k=>k=b) w Wa/\Wa.heap[b]?=some (.cells #[va,.string (yc s1.1),.int .i64 s1.2] 115 (0,0))/\Ln w0 V va b s1 Wa):=⟨hla1,hoa1,hlna.o,hlna⟩
        have HBx:Hid (Wa.heap[w.heap.size]?=some (.cells #[.pointer (some ⟨b,0,none⟩)] 113)/\Wa.heap[w.heap.size+1]?=some (.cells #[.func (.func 130) #[.pointer (some ⟨b,0,none⟩)] #[]] 162)/\Wa.heap[T]?=some (.cells #[.pointer (some ⟨b,0,none⟩)] 113)):=⟨hpa,hqa,hta⟩
        have HSz:Hid (T+1+2<=Wa.heap.size):=hsz
        have hm:Tryz.prog.follows .mixedOrders=true:=by kernel_rfl
        clear hgo haa hs2' hla1 hoa1 hlna hpa hqa hta
        gi_wp2
        refine zT (fun w'=>w'.cell? ⟨w.heap.size+1,0,none⟩=some (.func (.func 130) #[.pointer (some ⟨b,0,none⟩)] #[])) (fun w'=>w'.cell? ⟨A,0,none⟩=some (.slice ad all.length cp)) [6] hm ⟨c1,cA⟩ (fun hHeld=>?_)
        refine xU (i:=0) (oi:=⟨some 20,.load 58 (.tmp 5),_,_,_,none⟩) (v:=?va) rfl (by kernel_rfl) (by kernel_rfl) (by kernel_rfl) (by kernel_rfl) (by kernel_rfl) (by kernel_rfl) yr ⟨Or.inl ⟨by rfl,?ha⟩,fun _=>rfl,fun _ e=>by cases e⟩ (by assumption) ?ra
        case ha=>(intro w hSw;(try dsimp only at hSw);go_simp;try (with_reducible rfl))
        try simp only [Act.put,qa,qb,qc]
        refine yv (i:=1) (oi:=⟨some 21,.load 162 (.tmp 3),_,_,_,none⟩) (v:=?vb) rfl (by kernel_rfl) (by kernel_rfl) (by kernel_rfl) (by kernel_rfl) (by kernel_rfl) yr ⟨Or.inl ⟨by rfl,?hb⟩,fun _=>rfl,fun _ e=>by cases e⟩ (by assumption) ?rb
        case hb=>(intro w hSw;(try dsimp only at hSw);go_simp;try (with_reducible rfl))
        try simp only [Act.put,qa,qb,qc]
        refine yv (i:=2) (oi:=⟨some 22,.move (.tmp 6),_,_,_,none⟩) (v:=?vc) rfl (by kernel_rfl) (by kernel_rfl) (by kernel_rfl) (by kernel_rfl) (by kernel_rfl) yr ⟨Or.inl ⟨by rfl,?hc⟩,fun _=>rfl,fun _ e=>by cases e⟩ (by assumption) ?rc
        case hc=>(intro w hSw;(try dsimp only at hSw);go_simp;try (with_reducible rfl))
        try simp only [Act.put,qa,qb,qc]
        refine yo (i:=3) (o:=⟨some 23,.call { callee:=.value (.tmp 21),args:=#[.tmp 22],argTypes:=#[9] },_,_,_,none⟩) (by kernel_rfl) rfl (fun K hK=>?_)
        go_simp
        gi_wp2_with (refine ⟨trivial,?_⟩;gi_at_call 130;refine (zr (HI1.out _ (HE.out.2.2.2.below (Below.refl _ _).drew))).mono ?_;rintro e w3 ⟨rfl,h3,o3⟩;have H3:Hid (Ln w0 V va b s2 w3/\Ofw (fun k=>k=b) Wa w3):=⟨h3,(Ofw.of_below (Below.refl _ _).drew).trans o3⟩;clear h3 o3)
        have hla3:LAt w.heap.size A 58 3 1 (T+1) all.length (encL encI all) (.slice ad all.length cp) w3:=HE.out.1.keep H3.out.2 (fun k hk=>⟨by omega,fun c e=>by
          rw [hk,HE.out.2.2.1] at e
          injection e with e
          injection e with _ e _
          cases e⟩)
        have q3:w3.heap[w.heap.size+1]?=some (.cells #[.func (.func 130) #[.pointer (some ⟨b,0,none⟩)] #[]] 162):=(H3.out.2.block _ (Array.getElem?_eq_some_iff.1 HBx.out.2.1).1 (by omega)).trans HBx.out.2.1
        have cA3:w3.cell? ⟨A,0,none⟩=some (.slice ad all.length cp):=by rw [yd hla3.box 0];rfl
        have c13:w3.cell? ⟨w.heap.size+1,0,none⟩=some (.func (.func 130) #[.pointer (some ⟨b,0,none⟩)] #[]):=by rw [yd q3 0];rfl
        refine hK.out _ _ ⟨c13,fun _=>cA3⟩ ?_
        clear hK K
        try simp only [Act.put,qa,qb,qc]
        refine yo (i:=4) (o:=⟨some 24,.buildSlice 58 1 #[(0,.tmp 23)],_,_,_,none⟩) (by kernel_rfl) rfl (fun K hK=>?_)
        obtain ⟨V1,hV1⟩:∃ V1,w3.alloc (.cells #[.int .i64 aa] 3)=V1:=⟨_,rfl⟩
        have bV:Below w3.heap.size w3 V1:=hV1▸(Below.refl _ _).alloc (Nat.le_refl _) _
        go_simp
        try rw [hV1]
        refine hK.out _ _ ⟨(bV.cell (p:=⟨w.heap.size+1,0,none⟩) (Array.getElem?_eq_some_iff.1 q3).1).trans c13,fun _=>(bV.cell (p:=⟨A,0,none⟩) (Array.getElem?_eq_some_iff.1 hla3.box).1).trans cA3⟩ ?_
        clear hK K
        try simp only [Act.put,qa,qb,qc]
        refine yo (i:=5) (o:=⟨some 25,.call { callee:=.builtin .append,args:=#[.tmp 20,.tmp 24],argTypes:=#[58,58] },_,_,_,none⟩) (by kernel_rfl) rfl (fun K hK=>?_)
        have hs3':T+1+2<=w3.heap.size:=Nat.le_trans HSz.out H3.out.2.size
        refine xV w3 V1 (.tmp 20) (.tmp 24) 58 3 (.int .i64 0) 1 8 rfl Tryz.underlying58 (by kernel_rfl) rfl (by decide) w.heap.size (.slice ad all.length cp) all.length (encL encI all) #[.int .i64 aa] (by rfl) (by rfl) hV1 hla3.row rfl (by intro u hu;simp at hu;first | (subst hu;rfl) | (rcases hu with rfl | rfl <;> rfl)) (by unfold maxLen;omega) (by omega) (by omega) (by rfl) ?_
        intro v5 w5 g1 g2 g3
        obtain ⟨P1,P2,P3⟩:=hla3.push (by decide) g1 g2 g3 (by omega)
        obtain ⟨ad5,cp5,hv5⟩:=yq g1
        subst hv5
        have cA5:w5.cell? ⟨A,0,none⟩=some (.slice ad all.length cp):=by rw [yd P3 0];rfl
        have zA5:=yt P3 0
        have ne:∀ k c t,w3.heap[k]?=some (.cells c t (0,0))->t≠3->(Value.slice ad all.length cp).ownBlock≠some k:=fun k c t hk ht e=>by
          obtain ⟨_,cur,hc⟩:=yn hla3.row e
          rw [hk] at hc
          injection hc with hc
          injection hc with _ hc _
          exact ht hc
        have q5:w5.heap[w.heap.size+1]?=some (.cells #[.func (.func 130) #[.pointer (some ⟨b,0,none⟩)] #[]] 162):=(g2.block _ (Array.getElem?_eq_some_iff.1 q3).1 (ne _ _ _ q3 (by decide))).trans q3
        have c15:w5.cell? ⟨w.heap.size+1,0,none⟩=some (.func (.func 130) #[.pointer (some ⟨b,0,none⟩)] #[]):=by rw [yd q5 0];rfl
        refine hK.out _ _ ⟨c15,fun _=>cA5⟩ ?_
        clear hK K
        try simp only [Act.put,qa,qb,qc]
        refine xW (i:=6) (o:=⟨none,.store 58 (.tmp 5) (.tmp 25),_,_,_,none⟩) (by kernel_rfl) rfl (by kernel_rfl) (fun K hK=>?_)
        go_simp
        refine hK.out _ _ (by rw [World.cell?,Below.heap_setCell _ ⟨A,0,none⟩ _ _ (by simp only;omega)];exact c15) ?_
        clear hK K
        try simp only [Act.put,qa,qb,qc]
        refine yY (by kernel_rfl) ⟨rfl,?_⟩ _
        have p3:=(H3.out.2.block _ (Array.getElem?_eq_some_iff.1 HBx.out.1).1 (by omega)).trans HBx.out.1
        have t3:=(H3.out.2.block _ (Array.getElem?_eq_some_iff.1 HBx.out.2.2).1 (by omega)).trans HBx.out.2.2
        have st:∀ k c t,w3.heap[k]?=some (.cells c t (0,0))->t≠3->k≠A->(w5.setCell ⟨A,0,none⟩ (.slice ad5 (all.length+1) cp5)).heap[k]?=some (.cells c t (0,0)):=fun k c t hk ht hkA=>
          (P2.block k (Array.getElem?_eq_some_iff.1 hk).1 (fun e=>e.elim hkA (ne k c t hk ht))).trans hk
        have hl6:Ln w0 V va b s2 (w5.setCell ⟨A,0,none⟩ (.slice ad5 (all.length+1) cp5)):=H3.out.1.keep (fun k hk=>by
          rcases hk with hk | hk
          · omega
          · obtain ⟨h2,_⟩:=yn hla3.row hk
            exact ⟨by omega,fun e=>by omega⟩) P2
        have ho6:Ofw (fun k=>k=b) w (w5.setCell ⟨A,0,none⟩ (.slice ad5 (all.length+1) cp5)):=(HE.out.2.1.trans H3.out.2).new P2 (fun i hi=>by
          rcases hi with hi | hi
          · omega
          · exact .inl (yn hla3.row hi).1)
        have hla6:LAt w.heap.size A 58 3 1 (T+1) (all++[aa]).length (encL encI (all++[aa])) (.slice ad5 (all.length+1) cp5) (w5.setCell ⟨A,0,none⟩ (.slice ad5 (all.length+1) cp5)):=by
          rw [Yx,List.length_append]
          exact P1
        have far:=hla3.far
        have hW3s:=hs3
        have kp:∀ k,(k=T∨k=W3.heap.size∨k=W3.heap.size+1)->(w5.setCell ⟨A,0,none⟩ (.slice ad5 (all.length+1) cp5)).heap[k]?=Wa.heap[k]?:=fun k hk=>by
          have hkA:k≠A:=by omega
          have hkb:k≠b:=by omega
          have hks:k<Wa.heap.size:=by have:=HSz.out;omega
          refine (P2.block k (Nat.lt_of_lt_of_le hks H3.out.2.size) (fun e=>?_)).trans (H3.out.2.block k hks hkb)
          rcases e with e | e
          · exact hkA e
          · rcases hk with hk | hk | hk
            · subst hk;exact ne _ _ _ t3 (by decide) e
            · have:=far k e;omega
            · have:=far k e;omega
        have hsz6:Wa.heap.size<=(w5.setCell ⟨A,0,none⟩ (.slice ad5 (all.length+1) cp5)).heap.size:=Nat.le_trans H3.out.2.size P2.size
        have HX6:=Hid.mk' (And.intro hla6 (And.intro hl6 ho6))
        have HB6:=Hid.mk' (And.intro (st _ _ _ p3 (by decide) (by omega)) (And.intro (st _ _ _ q3 (by decide) (by omega)) (st _ _ _ t3 (by decide) (by omega))))
        have HK6:=Hid.mk' (And.intro hsz6 kp)
        clear P1 P2 P3 g1 g2 g3 hla3 hla6 hl6 ho6 kp st p3 q3 t3 hsz6 ne far
        gi_wp2
        exact ⟨.inl ⟨rfl,s2,⟨k,all++[aa],_,HX6.out.1,HX6.out.2.1,HX6.out.2.2,HB6.out,by simp;omega,HGo.out⟩,HM1.out⟩,HK6.out⟩
    case done=>
      rintro s' W ⟨k,all,v,hla,hl,ho,_,hk,hgo⟩ ht hK
      have hR:RR=(all,s'):=by
        rw [<-hgo]
        cases k <;> (unfold yK;rw [ht])
      have c2:W.cell? ⟨A,0,none⟩=some v:=by rw [yd hla.box 0];rfl
      have HR:Hid (RR=(all,s')):=hR
      clear hR hgo
      gi_wp2
      refine ⟨by simp,.inl ⟨_,_,rfl,run_takeDeferred hK,?_⟩⟩
      have hp:=zd (S:=fun k=>k=W3.heap.size) W W3.heap.size (.deferred none) rfl
      refine ⟨_,results_tmp rfl _ _ _,v,rfl,?_,?_,?_⟩
      · rw [HR.out];exact hl.keep (fun k hk=>by omega) hp
      · exact ho.new hp (fun i hi=>by omega)
      · rw [HR.out];exact yB hla.row (fun g hg e=>by have h1:=hla.far g hg;have e':g=W3.heap.size:=e;omega) hp
    case stop=>
      rintro c W ⟨rfl,v,hla,hl,ho⟩ hK
      have c2:W.cell? ⟨A,0,none⟩=some v:=by rw [yd hla.box 0];rfl
      refine wpIn_exit ?_
      gi_wp2
      refine ⟨by simp,.inl ⟨_,_,rfl,run_takeDeferred hK,?_⟩⟩
      have hp:=zd (S:=fun k=>k=W3.heap.size) W W3.heap.size (.deferred none) rfl
      exact ⟨_,results_tmp rfl _ _ _,v,rfl,hl.keep (fun k hk=>by omega) hp,ho.new hp (fun i hi=>by omega),yB hla.row (fun g hg e=>by have h1:=hla.far g hg;have e':g=W3.heap.size:=e;omega) hp⟩
theorem y3R {w0:World} {V:List Md.Vr} {va:Value} {b:Nat} {s:St} (w:World) (h:Ln w0 V va b s w):Calls Tryz.prog 131 #[.pointer (some ⟨b,0,none⟩),.func (.func 132) #[.pointer (some ⟨b,0,none⟩)] #[]] w (RL w0 V va b 87 2 (yp (yO V) s).1.length (encL encT (yp (yO V) s).1) (yp (yO V) s).2 w):=by
  obtain ⟨rd,hrd⟩:∃ rd:List UInt8->St->(Int × Int) × St,(yO V)=rd:=⟨_,rfl⟩
  have HI:Hid (∀ (t:St) (x:List UInt8) w',Ln w0 V va b t w'->x.length<=70000->Calls Tryz.prog 132 #[.pointer (some ⟨b,0,none⟩),.string (yc x)] w' (RO w0 V va b (.agg #[.int .i64 (rd x t).1.1,.int .i64 (rd x t).1.2]) (rd x t).2 w')):=by rw [<-hrd];exact fun t x w' h' hx=>y49 x w' h' hx
  have HM:Hid (∀ (x:List UInt8) (t:St),(rd x t).2.1.length<=t.1.length):=by rw [<-hrd];exact fun x t=>y48 V x t
  rw [hrd]
  clear hrd
  have HN:Hid (∀ w',Ln w0 V va b s w'->Calls Tryz.prog 124 #[.pointer (some ⟨b,0,none⟩)] w' (RO w0 V va b (.string (yc (ye s).1)) (ye s).2 w')):=fun w' h'=>xq w' h'
  have HXl:Hid ((ye s).1.length<=70000):=(zV h.n).1
  obtain ⟨x0,hx0⟩:∃ x,(ye s).1=x:=⟨_,rfl⟩
  obtain ⟨t0,ht0⟩:∃ t,(ye s).2=t:=⟨_,rfl⟩
  obtain ⟨a0,ha0⟩:∃ a,(rd x0 t0).1=a:=⟨_,rfl⟩
  obtain ⟨t1,ht1⟩:∃ t,(rd x0 t0).2=t:=⟨_,rfl⟩
  obtain ⟨RR,hRR⟩:∃ RR,yK rd 63 [a0] t1=RR:=⟨_,rfl⟩
  have he:yp rd s=RR:=by unfold yp;rw [hx0,ht0,ha0,ht1,hRR]
  have HRR:Hid (yK rd 63 [a0] t1=RR):=hRR
  rw [he]
  rw [hx0,ht0] at HN
  rw [hx0] at HXl
  have HI0:Hid (∀ w',Ln w0 V va b t0 w'->Calls Tryz.prog 132 #[.pointer (some ⟨b,0,none⟩),.string (yc x0)] w' (RO w0 V va b (.agg #[.int .i64 a0.1,.int .i64 a0.2]) t1 w')):=fun w' h'=>by
    have:=HI.out t0 x0 w' h' HXl.out
    rw [ha0,ht1] at this
    exact this
  clear hx0 ht0 ha0 ht1 hRR he
  refine (callsIn_wide (n:=5)).1 ?_
  obtain ⟨W1,hW1⟩:∃ W1,w.alloc (.cells #[.pointer (some ⟨b,0,none⟩)] 113)=W1:=⟨_,rfl⟩
  obtain ⟨W2,hW2⟩:∃ W2,W1.alloc (.cells #[.func (.func 132) #[.pointer (some ⟨b,0,none⟩)] #[]] 168)=W2:=⟨_,rfl⟩
  have hb1:Below w.heap.size w W1:=hW1▸(Below.refl _ _).alloc (Nat.le_refl _) _
  have hs1:W1.heap.size=w.heap.size+1:=by rw [<-hW1];simp
  have hb2:Below W1.heap.size W1 W2:=hW2▸(Below.refl _ _).alloc (Nat.le_refl _) _
  have hs2:W2.heap.size=w.heap.size+2:=by rw [<-hW2];simp [hs1]
  have hbw:Below w.heap.size w W2:=hb1.trans (hb2.mono hb1.size)
  have hp2:W2.heap[w.heap.size]?=some (.cells #[.pointer (some ⟨b,0,none⟩)] 113):=(hb2.block _ (by omega)).trans (hW1▸World.alloc_heap_new w _)
  have hq2:W2.heap[w.heap.size+1]?=some (.cells #[.func (.func 132) #[.pointer (some ⟨b,0,none⟩)] #[]] 168):=by rw [<-hs1,<-hW2];exact World.alloc_heap_new W1 _
  have hlt:=h.lt
  have hbg:=h.big
  have HBX:Hid (∀ w',Ofw (fun k=>k=b) W2 w'->w'.heap[w.heap.size]?=some (.cells #[.pointer (some ⟨b,0,none⟩)] 113)/\w'.heap[w.heap.size+1]?=some (.cells #[.func (.func 132) #[.pointer (some ⟨b,0,none⟩)] #[]] 168)/\Ofw (fun k=>k=b) w w'/\w.heap.size+2<=w'.heap.size):=fun w' ho=>
    ⟨(ho.block _ (Array.getElem?_eq_some_iff.1 hp2).1 (by omega)).trans hp2,(ho.block _ (Array.getElem?_eq_some_iff.1 hq2).1 (by omega)).trans hq2,(Ofw.of_below hbw).trans ho,by have:=ho.size;omega⟩
  have HL2:Hid (Ln w0 V va b s W2):=h.below hbw
  have hm:Tryz.prog.follows .mixedOrders=true:=by kernel_rfl
  refine callsIn_of_wp_marks Tryz.func131 rfl trivial ?_ rfl
  simp only [Tryz.ntmps131,List.size_toArray,List.length_cons,List.length_nil,Nat.reduceAdd,Nat.reduceSub,Array.replicate_succ,Array.replicate_zero,List.push_toArray,List.append_toArray,List.nil_append,List.cons_append]
  gi_wp2
  gi_cut [5] from 7 (fun tv wx=>∃ A,tv=.pointer (some ⟨A,0,none⟩)/\Hid (w.heap.size+2<=A/\A<wx.heap.size/\Ln w0 V va b t1 wx/\Ofw (fun k=>k=b) W2 wx/\∃ g,wx.heap[A]?=some (.cells #[.slice (some ⟨g,0,none⟩) 1 1] 24)/\w.heap.size+2<=g/\wx.heap[g]?=some (.cells #[.int .i64 a0.1,.int .i64 a0.2] 87)))
  case first=>
    refine zT (fun w'=>w'.cell? ⟨w.heap.size,0,none⟩=some (.pointer (some ⟨b,0,none⟩))/\w'.cell? ⟨w.heap.size+1,0,none⟩=some (.func (.func 132) #[.pointer (some ⟨b,0,none⟩)] #[])) (fun _=>True) [] hm ⟨⟨?_,?_⟩,trivial⟩ (fun hHeld=>?_)
    · exact (by rw [yd hp2 0]:W2.cell? ⟨w.heap.size,0,none⟩=_)
    · exact (by rw [yd hq2 0]:W2.cell? ⟨w.heap.size+1,0,none⟩=_)
    refine yv (i:=0) (oi:=⟨some 7,.load 168 (.tmp 3),_,_,_,none⟩) (v:=?v0) rfl (by kernel_rfl) (by kernel_rfl) (by kernel_rfl) (by kernel_rfl) (by kernel_rfl) yr ⟨Or.inl ⟨by rfl,?h0⟩,fun _=>rfl,fun _ e=>by cases e⟩ (by assumption) ?r0
    case h0=>(intro w hSw;(try dsimp only at hSw);go_simp;try (with_reducible rfl))
    try simp only [Act.put,qa,qb,qc]
    refine yv (i:=1) (oi:=⟨some 8,.load 113 (.tmp 2),_,_,_,none⟩) (v:=?v1) rfl (by kernel_rfl) (by kernel_rfl) (by kernel_rfl) (by kernel_rfl) (by kernel_rfl) yr ⟨Or.inl ⟨by rfl,?h1⟩,fun _=>rfl,fun _ e=>by cases e⟩ (by assumption) ?r1
    case h1=>(intro w hSw;(try dsimp only at hSw);go_simp;try (with_reducible rfl))
    try simp only [Act.put,qa,qb,qc]
    have HS:Hid (∀ w',Ofw (fun k=>k=b) W2 w'->w'.cell? ⟨w.heap.size,0,none⟩=some (.pointer (some ⟨b,0,none⟩))/\w'.cell? ⟨w.heap.size+1,0,none⟩=some (.func (.func 132) #[.pointer (some ⟨b,0,none⟩)] #[])):=fun w' ho=>by
      obtain ⟨p1,p2,_⟩:=HBX.out w' ho
      exact ⟨by rw [yd p1 0];rfl,by rw [yd p2 0];rfl⟩
    have fin:Hid (∀ (wq wf:World) (A X:Nat),Ln w0 V va b t1 wq->Ofw (fun k=>k=b) W2 wq->w.heap.size+2<=A->w.heap.size+2<=X->wq.heap[A]?=some (.cells #[.slice none 0 0] 24)->wq.heap[X]?=some (.cells #[.int .i64 a0.1,.int .i64 a0.2] 87)->wf=wq.setCell ⟨A,0,none⟩ (.slice (some ⟨X,0,none⟩) 1 1) ->
        Ofw (fun k=>k=b) W2 wf/\(w.heap.size+2<=A/\A<wf.heap.size/\Ln w0 V va b t1 wf/\Ofw (fun k=>k=b) W2 wf/\∃ g,wf.heap[A]?=some (.cells #[.slice (some ⟨g,0,none⟩) 1 1] 24)/\w.heap.size+2<=g/\wf.heap[g]?=some (.cells #[.int .i64 a0.1,.int .i64 a0.2] 87))):=fun wq wf A X hl ho hA hX cA cX e=>by
      have o6:Ofw (fun k=>k=A) wq wf:=e▸Ofw.set _ rfl
      have of:Ofw (fun k=>k=b) W2 wf:=ho.new o6 (fun i hi=>by omega)
      have hAX:X≠A:=fun e=>by rw [e,cA] at cX;injection cX with cX;injection cX with _ cX _;cases cX
      refine ⟨of,hA,Nat.lt_of_lt_of_le (Array.getElem?_eq_some_iff.1 cA).1 o6.size,hl.keep (fun k hk=>by omega) o6,of,X,e▸yC cA 0 _,hX,(o6.block X (Array.getElem?_eq_some_iff.1 cX).1 hAX).trans cX⟩
    obtain ⟨q0,hq0⟩:∃ q,W2.drew=q:=⟨_,rfl⟩
    have Lq0:Ln w0 V va b s q0:=hq0▸HL2.out.below (Below.refl _ _).drew
    have Oq0:Ofw (fun k=>k=b) W2 q0:=hq0▸Ofw.of_below (Below.refl _ _).drew
    rw [hq0]
    clear hHeld hW1 hW2 hb1 hb2 hbw hp2 hq2 hq0
    refine zW (i:=2) (j:=5) (o:=⟨some 9,.call { callee:=.value (.func 124),args:=#[.tmp 8],argTypes:=#[113] },_,_,_,none⟩) (o':=⟨some 5,.alloc 24,_,_,_,none⟩) (by kernel_rfl) rfl rfl (fun K hK=>?_) (fun K hK=>?_)
    · go_simp
      gi_wp2_with (refine ⟨trivial,?_⟩;gi_at_call 124;refine (callsIn_wide.2 (HN.out _ Lq0)).mono ?_;rintro e q1 ⟨rfl,Lq1,oq1⟩)
      have Oq1:Ofw (fun k=>k=b) W2 q1:=Oq0.trans oq1
      have q1_S:=HS.out q1 Oq1
      refine hK.out _ _ ⟨q1_S,fun _=>trivial⟩ ?_
      clear hK K
      try simp only [Act.put,qa,qb,qc]
      refine zW (i:=3) (j:=5) (o:=⟨some 10,.call { callee:=.value (.tmp 7),args:=#[.tmp 9],argTypes:=#[9] },_,_,_,none⟩) (o':=⟨some 5,.alloc 24,_,_,_,none⟩) (by kernel_rfl) rfl rfl (fun K hK=>?_) (fun K hK=>?_)
      · go_simp
        gi_wp2_with (refine ⟨trivial,?_⟩;gi_at_call 132;refine (callsIn_wide.2 (HI0.out _ Lq1)).mono ?_;rintro e q2 ⟨rfl,Lq2,oq2⟩)
        have Oq2:Ofw (fun k=>k=b) W2 q2:=Oq1.trans oq2
        have q2_S:=HS.out q2 Oq2
        refine hK.out _ _ ⟨q2_S,fun _=>trivial⟩ ?_
        clear hK K
        try simp only [Act.put,qa,qb,qc]
        refine zW (i:=4) (j:=5) (o:=⟨some 11,.buildSlice 24 1 #[(0,.tmp 10)],_,_,_,none⟩) (o':=⟨some 5,.alloc 24,_,_,_,none⟩) (by kernel_rfl) rfl rfl (fun K hK=>?_) (fun K hK=>?_)
        · obtain ⟨q3,eq3⟩:∃ V,q2.alloc (.cells #[.int .i64 a0.1,.int .i64 a0.2] 87)=V:=⟨_,rfl⟩
          have bq3:Below q2.heap.size q2 q3:=eq3▸(Below.refl _ _).alloc (Nat.le_refl _) _
          have Lq3:=Lq2.below bq3
          have Oq3:Ofw (fun k=>k=b) W2 q3:=Oq2.trans (Ofw.of_below bq3)
          have nq3:=Oq2.size
          have Xq3:q3.heap[q2.heap.size]?=some (.cells #[.int .i64 a0.1,.int .i64 a0.2] 87):=by rw [<-eq3];exact heap_alloc_new q2 _
          have gq3:=(Array.getElem?_eq_some_iff.1 Xq3).1
          go_simp
          try rw [eq3]
          obtain ⟨X,hX⟩:∃ X,q2.heap.size=X:=⟨_,rfl⟩
          rw [hX] at Xq3
          try rw [hX]
          clear eq3
          have q3_S:=HS.out q3 Oq3
          refine hK.out _ _ ⟨q3_S,fun _=>trivial⟩ ?_
          clear hK K
          try simp only [Act.put,qa,qb,qc]
          refine yo (i:=5) (o:=⟨some 5,.alloc 24,_,_,_,none⟩) (by kernel_rfl) rfl (fun K hK=>?_)
          obtain ⟨q4,eq4⟩:∃ V,q3.alloc (.cells #[.slice none 0 0] 24)=V:=⟨_,rfl⟩
          have bq4:Below q3.heap.size q3 q4:=eq4▸(Below.refl _ _).alloc (Nat.le_refl _) _
          have Lq4:=Lq3.below bq4
          have Oq4:Ofw (fun k=>k=b) W2 q4:=Oq3.trans (Ofw.of_below bq4)
          have nq4:=Oq3.size
          have Aq4:q4.heap[q3.heap.size]?=some (.cells #[.slice none 0 0] 24):=by rw [<-eq4];exact heap_alloc_new q3 _
          have Xq4:=(bq4.block _ (Array.getElem?_eq_some_iff.1 Xq3).1).trans Xq3
          have gq4:=(Array.getElem?_eq_some_iff.1 Aq4).1
          go_simp
          try rw [eq4]
          obtain ⟨A,hA⟩:∃ A,q3.heap.size=A:=⟨_,rfl⟩
          rw [hA] at Aq4
          try rw [hA]
          clear eq4
          have q4_S:=HS.out q4 Oq4
          refine hK.out _ _ ⟨q4_S,fun _=>trivial⟩ ?_
          clear hK K
          try simp only [Act.put,qa,qb,qc]
          have cA:=yd Aq4 0
          have zA:=yt Aq4 0
          refine yo (i:=6) (o:=⟨none,.store 24 (.tmp 5) (.tmp 11),_,_,_,none⟩) (by kernel_rfl) rfl (fun K hK=>?_)
          go_simp
          have hf:=fin.out q4 _ A X Lq4 Oq4 (by omega) (by omega) Aq4 Xq4 rfl
          refine hK.out _ _ ⟨HS.out _ hf.1,fun _=>trivial⟩ ?_
          clear hK K
          try simp only [Act.put,qa,qb,qc]
          refine yY (by kernel_rfl) ⟨rfl,?_⟩ _
          gi_wp2
          gi_meet
          case rel=>exact ⟨A,rfl,hf.2⟩
        · obtain ⟨q3,eq3⟩:∃ V,q2.alloc (.cells #[.slice none 0 0] 24)=V:=⟨_,rfl⟩
          have bq3:Below q2.heap.size q2 q3:=eq3▸(Below.refl _ _).alloc (Nat.le_refl _) _
          have Lq3:=Lq2.below bq3
          have Oq3:Ofw (fun k=>k=b) W2 q3:=Oq2.trans (Ofw.of_below bq3)
          have nq3:=Oq2.size
          have Aq3:q3.heap[q2.heap.size]?=some (.cells #[.slice none 0 0] 24):=by rw [<-eq3];exact heap_alloc_new q2 _
          have gq3:=(Array.getElem?_eq_some_iff.1 Aq3).1
          go_simp
          try rw [eq3]
          obtain ⟨A,hA⟩:∃ A,q2.heap.size=A:=⟨_,rfl⟩
          rw [hA] at Aq3
          try rw [hA]
          clear eq3
          have q3_S:=HS.out q3 Oq3
          refine hK.out _ _ ⟨q3_S,fun _=>trivial⟩ ?_
          clear hK K
          try simp only [Act.put,qa,qb,qc]
          refine yo (i:=4) (o:=⟨some 11,.buildSlice 24 1 #[(0,.tmp 10)],_,_,_,none⟩) (by kernel_rfl) rfl (fun K hK=>?_)
          obtain ⟨q4,eq4⟩:∃ V,q3.alloc (.cells #[.int .i64 a0.1,.int .i64 a0.2] 87)=V:=⟨_,rfl⟩
          have bq4:Below q3.heap.size q3 q4:=eq4▸(Below.refl _ _).alloc (Nat.le_refl _) _
          have Lq4:=Lq3.below bq4
          have Oq4:Ofw (fun k=>k=b) W2 q4:=Oq3.trans (Ofw.of_below bq4)
          have nq4:=Oq3.size
          have Xq4:q4.heap[q3.heap.size]?=some (.cells #[.int .i64 a0.1,.int .i64 a0.2] 87):=by rw [<-eq4];exact heap_alloc_new q3 _
          have Aq4:=(bq4.block _ (Array.getElem?_eq_some_iff.1 Aq3).1).trans Aq3
          have gq4:=(Array.getElem?_eq_some_iff.1 Xq4).1
          go_simp
          try rw [eq4]
          obtain ⟨X,hX⟩:∃ X,q3.heap.size=X:=⟨_,rfl⟩
          rw [hX] at Xq4
          try rw [hX]
          clear eq4
          have q4_S:=HS.out q4 Oq4
          refine hK.out _ _ ⟨q4_S,fun _=>trivial⟩ ?_
          clear hK K
          try simp only [Act.put,qa,qb,qc]
          have cA:=yd Aq4 0
          have zA:=yt Aq4 0
          refine yo (i:=6) (o:=⟨none,.store 24 (.tmp 5) (.tmp 11),_,_,_,none⟩) (by kernel_rfl) rfl (fun K hK=>?_)
          go_simp
          have hf:=fin.out q4 _ A X Lq4 Oq4 (by omega) (by omega) Aq4 Xq4 rfl
          refine hK.out _ _ ⟨HS.out _ hf.1,fun _=>trivial⟩ ?_
          clear hK K
          try simp only [Act.put,qa,qb,qc]
          refine yY (by kernel_rfl) ⟨rfl,?_⟩ _
          gi_wp2
          gi_meet
          case rel=>exact ⟨A,rfl,hf.2⟩
      · obtain ⟨q2,eq2⟩:∃ V,q1.alloc (.cells #[.slice none 0 0] 24)=V:=⟨_,rfl⟩
        have bq2:Below q1.heap.size q1 q2:=eq2▸(Below.refl _ _).alloc (Nat.le_refl _) _
        have Lq2:=Lq1.below bq2
        have Oq2:Ofw (fun k=>k=b) W2 q2:=Oq1.trans (Ofw.of_below bq2)
        have nq2:=Oq1.size
        have Aq2:q2.heap[q1.heap.size]?=some (.cells #[.slice none 0 0] 24):=by rw [<-eq2];exact heap_alloc_new q1 _
        have gq2:=(Array.getElem?_eq_some_iff.1 Aq2).1
        go_simp
        try rw [eq2]
        obtain ⟨A,hA⟩:∃ A,q1.heap.size=A:=⟨_,rfl⟩
        rw [hA] at Aq2
        try rw [hA]
        clear eq2
        have q2_S:=HS.out q2 Oq2
        refine hK.out _ _ ⟨q2_S,fun _=>trivial⟩ ?_
        clear hK K
        try simp only [Act.put,qa,qb,qc]
        refine yo (i:=3) (o:=⟨some 10,.call { callee:=.value (.tmp 7),args:=#[.tmp 9],argTypes:=#[9] },_,_,_,none⟩) (by kernel_rfl) rfl (fun K hK=>?_)
        go_simp
        gi_wp2_with (refine ⟨trivial,?_⟩;gi_at_call 132;refine (callsIn_wide.2 (HI0.out _ Lq2)).mono ?_;rintro e q3 ⟨rfl,Lq3,oq3⟩)
        have Oq3:Ofw (fun k=>k=b) W2 q3:=Oq2.trans oq3
        have Aq3:=(oq3.block A (Array.getElem?_eq_some_iff.1 Aq2).1 (by omega)).trans Aq2
        have q3_S:=HS.out q3 Oq3
        refine hK.out _ _ ⟨q3_S,fun _=>trivial⟩ ?_
        clear hK K
        try simp only [Act.put,qa,qb,qc]
        refine yo (i:=4) (o:=⟨some 11,.buildSlice 24 1 #[(0,.tmp 10)],_,_,_,none⟩) (by kernel_rfl) rfl (fun K hK=>?_)
        obtain ⟨q4,eq4⟩:∃ V,q3.alloc (.cells #[.int .i64 a0.1,.int .i64 a0.2] 87)=V:=⟨_,rfl⟩
        have bq4:Below q3.heap.size q3 q4:=eq4▸(Below.refl _ _).alloc (Nat.le_refl _) _
        have Lq4:=Lq3.below bq4
        have Oq4:Ofw (fun k=>k=b) W2 q4:=Oq3.trans (Ofw.of_below bq4)
        have nq4:=Oq3.size
        have Xq4:q4.heap[q3.heap.size]?=some (.cells #[.int .i64 a0.1,.int .i64 a0.2] 87):=by rw [<-eq4];exact heap_alloc_new q3 _
        have Aq4:=(bq4.block _ (Array.getElem?_eq_some_iff.1 Aq3).1).trans Aq3
        have gq4:=(Array.getElem?_eq_some_iff.1 Xq4).1
        go_simp
        try rw [eq4]
        obtain ⟨X,hX⟩:∃ X,q3.heap.size=X:=⟨_,rfl⟩
        rw [hX] at Xq4
        try rw [hX]
        clear eq4
        have q4_S:=HS.out q4 Oq4
        refine hK.out _ _ ⟨q4_S,fun _=>trivial⟩ ?_
        clear hK K
        try simp only [Act.put,qa,qb,qc]
        have cA:=yd Aq4 0
        have zA:=yt Aq4 0
        refine yo (i:=6) (o:=⟨none,.store 24 (.tmp 5) (.tmp 11),_,_,_,none⟩) (by kernel_rfl) rfl (fun K hK=>?_)
        go_simp
        have hf:=fin.out q4 _ A X Lq4 Oq4 (by omega) (by omega) Aq4 Xq4 rfl
        refine hK.out _ _ ⟨HS.out _ hf.1,fun _=>trivial⟩ ?_
        clear hK K
        try simp only [Act.put,qa,qb,qc]
        refine yY (by kernel_rfl) ⟨rfl,?_⟩ _
        gi_wp2
        gi_meet
        case rel=>exact ⟨A,rfl,hf.2⟩
    · obtain ⟨q1,eq1⟩:∃ V,q0.alloc (.cells #[.slice none 0 0] 24)=V:=⟨_,rfl⟩
      have bq1:Below q0.heap.size q0 q1:=eq1▸(Below.refl _ _).alloc (Nat.le_refl _) _
      have Lq1:=Lq0.below bq1
      have Oq1:Ofw (fun k=>k=b) W2 q1:=Oq0.trans (Ofw.of_below bq1)
      have nq1:=Oq0.size
      have Aq1:q1.heap[q0.heap.size]?=some (.cells #[.slice none 0 0] 24):=by rw [<-eq1];exact heap_alloc_new q0 _
      have gq1:=(Array.getElem?_eq_some_iff.1 Aq1).1
      go_simp
      try rw [eq1]
      obtain ⟨A,hA⟩:∃ A,q0.heap.size=A:=⟨_,rfl⟩
      rw [hA] at Aq1
      try rw [hA]
      clear eq1
      have q1_S:=HS.out q1 Oq1
      refine hK.out _ _ ⟨q1_S,fun _=>trivial⟩ ?_
      clear hK K
      try simp only [Act.put,qa,qb,qc]
      refine yo (i:=2) (o:=⟨some 9,.call { callee:=.value (.func 124),args:=#[.tmp 8],argTypes:=#[113] },_,_,_,none⟩) (by kernel_rfl) rfl (fun K hK=>?_)
      go_simp
      gi_wp2_with (refine ⟨trivial,?_⟩;gi_at_call 124;refine (callsIn_wide.2 (HN.out _ Lq1)).mono ?_;rintro e q2 ⟨rfl,Lq2,oq2⟩)
      have Oq2:Ofw (fun k=>k=b) W2 q2:=Oq1.trans oq2
      have Aq2:=(oq2.block A (Array.getElem?_eq_some_iff.1 Aq1).1 (by omega)).trans Aq1
      have q2_S:=HS.out q2 Oq2
      refine hK.out _ _ ⟨q2_S,fun _=>trivial⟩ ?_
      clear hK K
      try simp only [Act.put,qa,qb,qc]
      refine yo (i:=3) (o:=⟨some 10,.call { callee:=.value (.tmp 7),args:=#[.tmp 9],argTypes:=#[9] },_,_,_,none⟩) (by kernel_rfl) rfl (fun K hK=>?_)
      go_simp
      gi_wp2_with (refine ⟨trivial,?_⟩;gi_at_call 132;refine (callsIn_wide.2 (HI0.out _ Lq2)).mono ?_;rintro e q3 ⟨rfl,Lq3,oq3⟩)
      have Oq3:Ofw (fun k=>k=b) W2 q3:=Oq2.trans oq3
      have Aq3:=(oq3.block A (Array.getElem?_eq_some_iff.1 Aq2).1 (by omega)).trans Aq2
      have q3_S:=HS.out q3 Oq3
      refine hK.out _ _ ⟨q3_S,fun _=>trivial⟩ ?_
      clear hK K
      try simp only [Act.put,qa,qb,qc]
      refine yo (i:=4) (o:=⟨some 11,.buildSlice 24 1 #[(0,.tmp 10)],_,_,_,none⟩) (by kernel_rfl) rfl (fun K hK=>?_)
      obtain ⟨q4,eq4⟩:∃ V,q3.alloc (.cells #[.int .i64 a0.1,.int .i64 a0.2] 87)=V:=⟨_,rfl⟩
      have bq4:Below q3.heap.size q3 q4:=eq4▸(Below.refl _ _).alloc (Nat.le_refl _) _
      have Lq4:=Lq3.below bq4
      have Oq4:Ofw (fun k=>k=b) W2 q4:=Oq3.trans (Ofw.of_below bq4)
      have nq4:=Oq3.size
      have Xq4:q4.heap[q3.heap.size]?=some (.cells #[.int .i64 a0.1,.int .i64 a0.2] 87):=by rw [<-eq4];exact heap_alloc_new q3 _
      have Aq4:=(bq4.block _ (Array.getElem?_eq_some_iff.1 Aq3).1).trans Aq3
      have gq4:=(Array.getElem?_eq_some_iff.1 Xq4).1
      go_simp
      try rw [eq4]
      obtain ⟨X,hX⟩:∃ X,q3.heap.size=X:=⟨_,rfl⟩
      rw [hX] at Xq4
      try rw [hX]
      clear eq4
      have q4_S:=HS.out q4 Oq4
      refine hK.out _ _ ⟨q4_S,fun _=>trivial⟩ ?_
      clear hK K
      try simp only [Act.put,qa,qb,qc]
      have cA:=yd Aq4 0
      have zA:=yt Aq4 0
      refine yo (i:=6) (o:=⟨none,.store 24 (.tmp 5) (.tmp 11),_,_,_,none⟩) (by kernel_rfl) rfl (fun K hK=>?_)
      go_simp
      have hf:=fin.out q4 _ A X Lq4 Oq4 (by omega) (by omega) Aq4 Xq4 rfl
      refine hK.out _ _ ⟨HS.out _ hf.1,fun _=>trivial⟩ ?_
      clear hK K
      try simp only [Act.put,qa,qb,qc]
      refine yY (by kernel_rfl) ⟨rfl,?_⟩ _
      gi_wp2
      gi_meet
      case rel=>exact ⟨A,rfl,hf.2⟩
  case rest=>
    obtain ⟨A,rfl,hA⟩:=hcut
    obtain ⟨hA1,hA2,hln,hof,g,hbx,hg,hgc⟩:=hA.out
    obtain ⟨p1,p2,o1,z1⟩:=HBX.out wc hof
    have c1:wc.cell? ⟨w.heap.size,0,none⟩=some (.pointer (some ⟨b,0,none⟩)):=by rw [yd p1 0];rfl
    have hX:=xT (F:=Fence.wide) (5-1) b wc rfl
    clear hA HBX HL2 HN HI0 hW1 hW2 hb1 hb2 hbw hp2 hq2 hs1 hs2
    gi_wp2_with (refine ⟨trivial,?_⟩;gi_at_call 47;refine hX.mono ?_;rintro e w' ⟨rfl,rfl⟩)
    obtain ⟨W3,hW3⟩:∃ W3,wc.alloc (.cells #[.pointer (some ⟨b,0,none⟩)] 113)=W3:=⟨_,rfl⟩
    rw [hW3]
    obtain ⟨T,hT⟩:∃ T,wc.heap.size=T:=⟨_,rfl⟩
    have hb3:Below wc.heap.size wc W3:=hW3▸(Below.refl _ _).alloc (Nat.le_refl _) _
    have hs3:W3.heap.size=T+1:=by rw [<-hW3,<-hT];simp
    have hB3:W3.heap[T]?=some (.cells #[.pointer (some ⟨b,0,none⟩)] 113):=by rw [<-hT,<-hW3];exact World.alloc_heap_new wc _
    have hT2:w.heap.size+2<=T:=by omega
    have hAT:A<T:=by omega
    have hgT:g<T:=by have:=(Array.getElem?_eq_some_iff.1 hgc).1;omega
    have o3:Ofw (fun k=>k=b) wc W3:=Ofw.of_below hb3
    have hLA:LAt w.heap.size A 24 87 2 W3.heap.size 1 (encL encT [a0]) (.slice (some ⟨g,0,none⟩) 1 1) W3:=by
      refine ⟨(hb3.block _ hA2).trans hbx,Yw ((hb3.block _ (Array.getElem?_eq_some_iff.1 hgc).1).trans hgc) (by omega) rfl,fun g' hg'=>?_⟩
      injection hg' with hg'
      have hg2:g=g':=hg'
      omega
    have hL3:Ln w0 V va b t1 W3:=hln.below hb3
    have hO3:Ofw (fun k=>k=b) w W3:=o1.trans o3
    have hP3:=(hb3.block _ (Array.getElem?_eq_some_iff.1 p1).1).trans p1
    have hQ3:=(hb3.block _ (Array.getElem?_eq_some_iff.1 p2).1).trans p2
    rw [hT]
    rw [hs3] at hLA
    clear hX hW3 c1 hbx hgc hof o1 o3 hln p1 p2 hb3 z1 hT
    refine Ye rfl (by omega) (gf:=105) (lb:=#[.pointer (some ⟨T,0,none⟩)]) rfl trivial (enters_of Tryz.func105 (by kernel_rfl) rfl) (w0:=w0) (V:=V) (va:=va) (b:=b) t1 (T:=fun k=>k=T) (fun k hk=>by omega)
      (fun W hb=>Yf _ (by omega) T W ((hb.block _ (by omega)).trans hB3) (by omega)) rfl
      (fun s' W=>∃ (k:Nat) (all:List (Int × Int)) (v:Value),LAt w.heap.size A 24 87 2 (T+1) all.length (encL encT all) v W/\Ln w0 V va b s' W/\Ofw (fun k=>k=b) w W/\(W.heap[w.heap.size]?=some (.cells #[.pointer (some ⟨b,0,none⟩)] 113)/\W.heap[w.heap.size+1]?=some (.cells #[.func (.func 132) #[.pointer (some ⟨b,0,none⟩)] #[]] 168)/\W.heap[T]?=some (.cells #[.pointer (some ⟨b,0,none⟩)] 113))/\all.length+k=64/\yK rd k all s'=RR)
      (fun c W=>c=.exit 0/\∃ v,LAt w.heap.size A 24 87 2 (T+1) RR.1.length (encL encT RR.1) v W/\Ln w0 V va b RR.2 W/\Ofw (fun k=>k=b) w W)
      (fun s' W hI=>by obtain ⟨k,all,v,_,h2,_⟩:=hI;exact h2) ?_ ?_ ⟨63,[a0],_,hLA,hL3,hO3,⟨hP3,hQ3,hB3⟩,rfl,HRR.out⟩
      (fun x=>{ tmps:=#[.pointer (some ⟨b,0,none⟩),.func (.func 132) #[.pointer (some ⟨b,0,none⟩)] #[],.pointer (some ⟨w.heap.size,0,none⟩),.pointer (some ⟨w.heap.size+1,0,none⟩),.slice none 0 0,.pointer (some ⟨A,0,none⟩),.string (yc x),u7,u8,u9,u10,u11,.pointer (some ⟨b,0,none⟩),.func (.func 105) #[] #[.pointer (some ⟨T,0,none⟩)],.string (yc x),u15,u16,u17,u18,u19,u20,u21,u22,u23,u24,u25,u26],defers:=[] }) ?assign ?body ?done ?stop
    · rintro s' W W' ⟨k,all,v,hla,hl,ho,⟨hp,hq,ht⟩,hk,hgo⟩ kk
      exact ⟨k,all,v,hla.loop (by omega) (by rw [hs3] at kk;exact kk),hl.keep (fun k hk=>by omega) kk,ho.new kk (fun i hi=>by omega),⟨(kk.block _ (Array.getElem?_eq_some_iff.1 hp).1 (by omega)).trans hp,(kk.block _ (Array.getElem?_eq_some_iff.1 hq).1 (by omega)).trans hq,(kk.block _ (Array.getElem?_eq_some_iff.1 ht).1 (by omega)).trans ht⟩,hk,hgo⟩
    · rintro c W W' ⟨rfl,v,hla,hl,ho⟩ kk
      exact ⟨rfl,v,hla.loop (by omega) (by rw [hs3] at kk;exact kk),hl.keep (fun k hk=>by omega) kk,ho.new kk (fun i hi=>by omega)⟩
    case assign=>
      intro l' x W K hK
      gi_wp2
      exact hK
    case body=>
      rintro l' s' x s1 W Wa ⟨k,all,v,hla,hl,ho,⟨hp,hq,ht⟩,hk,hgo⟩ hx hlna hoa hsz
      rw [hs3] at hoa hsz
      have hbt:W.heap[b]?=some (.cells #[va,.string (yc s'.1),.int .i64 s'.2] 115 (0,0)):=hl.o
      have hAb:A≠b:=by omega
      have hfar:=hla.far
      have hla1:LAt w.heap.size A 24 87 2 (T+1) all.length (encL encT all) v Wa:=
        ⟨(hoa.block A (Array.getElem?_eq_some_iff.1 hla.box).1 (by omega)).trans hla.box,yB hla.row (fun g hg e=>by
          have h1:=hfar g hg
          obtain ⟨h2,cur,hc⟩:=yn hla.row hg
          rcases e with e | e | e
          · rw [e,hbt] at hc;injection hc with hc;injection hc with _ hc _;cases hc
          · exact h1.1 e
          · exact h1.2 e) hoa,hfar⟩
      have hpa:=(hoa.block _ (Array.getElem?_eq_some_iff.1 hp).1 (by omega)).trans hp
      have hqa:=(hoa.block _ (Array.getElem?_eq_some_iff.1 hq).1 (by omega)).trans hq
      have hta:=(hoa.block _ (Array.getElem?_eq_some_iff.1 ht).1 (by omega)).trans ht
      have hoa1:Ofw (fun k=>k=b) w Wa:=ho.new hoa (fun i hi=>by omega)
      obtain ⟨ad,cp,hv⟩:=yq hla1.row
      subst hv
      have cA:Wa.cell? ⟨A,0,none⟩=some (.slice ad all.length cp):=by rw [yd hla1.box 0];rfl
      have c0:Wa.cell? ⟨w.heap.size,0,none⟩=some (.pointer (some ⟨b,0,none⟩)):=by rw [yd hpa 0];rfl
      have c1:Wa.cell? ⟨w.heap.size+1,0,none⟩=some (.func (.func 132) #[.pointer (some ⟨b,0,none⟩)] #[]):=by rw [yd hqa 0];rfl
      have hxl:x.length<=70000:=Nat.le_trans (zf hx).2.1 hl.n
      clear hla hl ho hp hq ht hbt hoa
      cases k with
      | zero =>
        have h64:((all.length:Int)==64)=true:=by simp;omega
        have hR:RR=(all,yh 47 s1):=by rw [<-hgo];unfold yK;rw [hx]
        have HF:Hid (Calls Tryz.prog 109 #[.pointer (some ⟨b,0,none⟩),.int .i64 47] Wa (RO w0 V va b (.tuple #[]) (yh 47 s1) Wa)):=zC 47 Wa hlna
        have HR:Hid (RR=(all,yh 47 s1)):=hR
        have HE:Hid (LAt w.heap.size A 24 87 2 (T+1) all.length (encL encT all) (.slice ad all.length cp) Wa/\Ofw (fun k=>k=b) w Wa/\Wa.heap[b]?=some (.cells #[va,.string (yc s1.1),.int .i64 s1.2] 115 (0,0))):=⟨hla1,hoa1,hlna.o⟩
        have HSz:Hid (T+1+2<=Wa.heap.size):=hsz
        clear hR hgo hla1 hoa1 hlna hpa hqa hta hk hsz
        gi_wp2_with (refine ⟨trivial,?_⟩;gi_at_call 109;refine (zr HF.out).mono ?_;rintro e w3 ⟨rfl,h3,o3⟩;have HV:Hid (Ln w0 V va b (yh 47 s1) w3/\Ofw (fun k=>k=b) Wa w3):=⟨h3,o3⟩;clear h3 o3)
        have hk1:LAt w.heap.size A 24 87 2 (T+1) all.length (encL encT all) (.slice ad all.length cp) w3:=HE.out.1.keep HV.out.2 (fun k hk=>⟨by omega,fun c e=>by
          rw [hk,HE.out.2.2] at e
          injection e with e
          injection e with _ e _
          cases e⟩)
        have hk2:LAt w.heap.size A 24 87 2 (T+1) RR.1.length (encL encT RR.1) (.slice ad all.length cp) w3:=by rw [HR.out];exact hk1
        exact ⟨.inr (.inr ⟨0,rfl,rfl,_,hk2,by rw [HR.out];exact HV.out.1,HE.out.2.1.trans HV.out.2⟩),HV.out.2.size,fun k hk=>HV.out.2.block k (by have:=HSz.out;omega) (by omega)⟩
      | succ k =>
        have h64:((all.length:Int)==64)=false:=by simp;omega
        have hal:all.length<=64:=by omega
        obtain ⟨aa,haa⟩:∃ aa,(rd x s1).1=aa:=⟨_,rfl⟩
        obtain ⟨s2,hs2'⟩:∃ s2,(rd x s1).2=s2:=⟨_,rfl⟩
        have HI1:Hid (∀ w',Ln w0 V va b s1 w'->Calls Tryz.prog 132 #[.pointer (some ⟨b,0,none⟩),.string (yc x)] w' (RO w0 V va b (.agg #[.int .i64 aa.1,.int .i64 aa.2]) s2 w')):=fun w' h'=>by
          have:=HI.out s1 x w' h' hxl
          rw [haa,hs2'] at this
          exact this
        have HGo:Hid (yK rd k (all++[aa]) s2=RR):=by
          show _=_
          rw [<-hgo]
          conv=>rhs;unfold yK
          rw [hx]
          simp only [haa,hs2']
        have HM1:Hid (s2.1.length<=s1.1.length):=by rw [<-hs2'];exact HM.out x s1
        have HE:Hid (LAt w.heap.size A 24 87 2 (T+1) all.length (encL encT all) (.slice ad all.length cp) Wa/\Ofw (fun k=>k=b) w Wa/\Wa.heap[b]?=some (.cells #[va,.string (yc s1.1),.int .i64 s1.2] 115 (0,0))/\Ln w0 V va b s1 Wa):=⟨hla1,hoa1,hlna.o,hlna⟩
        have HBx:Hid (Wa.heap[w.heap.size]?=some (.cells #[.pointer (some ⟨b,0,none⟩)] 113)/\Wa.heap[w.heap.size+1]?=some (.cells #[.func (.func 132) #[.pointer (some ⟨b,0,none⟩)] #[]] 168)/\Wa.heap[T]?=some (.cells #[.pointer (some ⟨b,0,none⟩)] 113)):=⟨hpa,hqa,hta⟩
        have HSz:Hid (T+1+2<=Wa.heap.size):=hsz
        have hm:Tryz.prog.follows .mixedOrders=true:=by kernel_rfl
        clear hgo haa hs2' hla1 hoa1 hlna hpa hqa hta
        gi_wp2
        refine zT (fun w'=>w'.cell? ⟨w.heap.size+1,0,none⟩=some (.func (.func 132) #[.pointer (some ⟨b,0,none⟩)] #[])) (fun w'=>w'.cell? ⟨A,0,none⟩=some (.slice ad all.length cp)) [6] hm ⟨c1,cA⟩ (fun hHeld=>?_)
        refine xU (i:=0) (oi:=⟨some 20,.load 24 (.tmp 5),_,_,_,none⟩) (v:=?va) rfl (by kernel_rfl) (by kernel_rfl) (by kernel_rfl) (by kernel_rfl) (by kernel_rfl) (by kernel_rfl) yr ⟨Or.inl ⟨by rfl,?ha⟩,fun _=>rfl,fun _ e=>by cases e⟩ (by assumption) ?ra
        case ha=>(intro w hSw;(try dsimp only at hSw);go_simp;try (with_reducible rfl))
        try simp only [Act.put,qa,qb,qc]
        refine yv (i:=1) (oi:=⟨some 21,.load 168 (.tmp 3),_,_,_,none⟩) (v:=?vb) rfl (by kernel_rfl) (by kernel_rfl) (by kernel_rfl) (by kernel_rfl) (by kernel_rfl) yr ⟨Or.inl ⟨by rfl,?hb⟩,fun _=>rfl,fun _ e=>by cases e⟩ (by assumption) ?rb
        case hb=>(intro w hSw;(try dsimp only at hSw);go_simp;try (with_reducible rfl))
        try simp only [Act.put,qa,qb,qc]
        refine yv (i:=2) (oi:=⟨some 22,.move (.tmp 6),_,_,_,none⟩) (v:=?vc) rfl (by kernel_rfl) (by kernel_rfl) (by kernel_rfl) (by kernel_rfl) (by kernel_rfl) yr ⟨Or.inl ⟨by rfl,?hc⟩,fun _=>rfl,fun _ e=>by cases e⟩ (by assumption) ?rc
        case hc=>(intro w hSw;(try dsimp only at hSw);go_simp;try (with_reducible rfl))
        try simp only [Act.put,qa,qb,qc]
        refine yo (i:=3) (o:=⟨some 23,.call { callee:=.value (.tmp 21),args:=#[.tmp 22],argTypes:=#[9] },_,_,_,none⟩) (by kernel_rfl) rfl (fun K hK=>?_)
        go_simp
        gi_wp2_with (refine ⟨trivial,?_⟩;gi_at_call 132;refine (zr (HI1.out _ (HE.out.2.2.2.below (Below.refl _ _).drew))).mono ?_;rintro e w3 ⟨rfl,h3,o3⟩;have H3:Hid (Ln w0 V va b s2 w3/\Ofw (fun k=>k=b) Wa w3):=⟨h3,(Ofw.of_below (Below.refl _ _).drew).trans o3⟩;clear h3 o3)
        have hla3:LAt w.heap.size A 24 87 2 (T+1) all.length (encL encT all) (.slice ad all.length cp) w3:=HE.out.1.keep H3.out.2 (fun k hk=>⟨by omega,fun c e=>by
          rw [hk,HE.out.2.2.1] at e
          injection e with e
          injection e with _ e _
          cases e⟩)
        have q3:w3.heap[w.heap.size+1]?=some (.cells #[.func (.func 132) #[.pointer (some ⟨b,0,none⟩)] #[]] 168):=(H3.out.2.block _ (Array.getElem?_eq_some_iff.1 HBx.out.2.1).1 (by omega)).trans HBx.out.2.1
        have cA3:w3.cell? ⟨A,0,none⟩=some (.slice ad all.length cp):=by rw [yd hla3.box 0];rfl
        have c13:w3.cell? ⟨w.heap.size+1,0,none⟩=some (.func (.func 132) #[.pointer (some ⟨b,0,none⟩)] #[]):=by rw [yd q3 0];rfl
        refine hK.out _ _ ⟨c13,fun _=>cA3⟩ ?_
        clear hK K
        try simp only [Act.put,qa,qb,qc]
        refine yo (i:=4) (o:=⟨some 24,.buildSlice 24 1 #[(0,.tmp 23)],_,_,_,none⟩) (by kernel_rfl) rfl (fun K hK=>?_)
        obtain ⟨V1,hV1⟩:∃ V1,w3.alloc (.cells #[.int .i64 aa.1,.int .i64 aa.2] 87)=V1:=⟨_,rfl⟩
        have bV:Below w3.heap.size w3 V1:=hV1▸(Below.refl _ _).alloc (Nat.le_refl _) _
        go_simp
        try rw [hV1]
        refine hK.out _ _ ⟨(bV.cell (p:=⟨w.heap.size+1,0,none⟩) (Array.getElem?_eq_some_iff.1 q3).1).trans c13,fun _=>(bV.cell (p:=⟨A,0,none⟩) (Array.getElem?_eq_some_iff.1 hla3.box).1).trans cA3⟩ ?_
        clear hK K
        try simp only [Act.put,qa,qb,qc]
        refine yo (i:=5) (o:=⟨some 25,.call { callee:=.builtin .append,args:=#[.tmp 20,.tmp 24],argTypes:=#[24,24] },_,_,_,none⟩) (by kernel_rfl) rfl (fun K hK=>?_)
        have hs3':T+1+2<=w3.heap.size:=Nat.le_trans HSz.out H3.out.2.size
        refine xV w3 V1 (.tmp 20) (.tmp 24) 24 87 (.agg #[.int .i64 0,.int .i64 0]) 2 16 rfl Tryz.underlying24 (by kernel_rfl) rfl (by decide) w.heap.size (.slice ad all.length cp) all.length (encL encT all) #[.int .i64 aa.1,.int .i64 aa.2] (by rfl) (by rfl) hV1 hla3.row rfl (by intro u hu;simp at hu;first | (subst hu;rfl) | (rcases hu with rfl | rfl <;> rfl)) (by unfold maxLen;omega) (by omega) (by omega) (by rfl) ?_
        intro v5 w5 g1 g2 g3
        obtain ⟨P1,P2,P3⟩:=hla3.push (by decide) g1 g2 g3 (by omega)
        obtain ⟨ad5,cp5,hv5⟩:=yq g1
        subst hv5
        have cA5:w5.cell? ⟨A,0,none⟩=some (.slice ad all.length cp):=by rw [yd P3 0];rfl
        have zA5:=yt P3 0
        have ne:∀ k c t,w3.heap[k]?=some (.cells c t (0,0))->t≠87->(Value.slice ad all.length cp).ownBlock≠some k:=fun k c t hk ht e=>by
          obtain ⟨_,cur,hc⟩:=yn hla3.row e
          rw [hk] at hc
          injection hc with hc
          injection hc with _ hc _
          exact ht hc
        have q5:w5.heap[w.heap.size+1]?=some (.cells #[.func (.func 132) #[.pointer (some ⟨b,0,none⟩)] #[]] 168):=(g2.block _ (Array.getElem?_eq_some_iff.1 q3).1 (ne _ _ _ q3 (by decide))).trans q3
        have c15:w5.cell? ⟨w.heap.size+1,0,none⟩=some (.func (.func 132) #[.pointer (some ⟨b,0,none⟩)] #[]):=by rw [yd q5 0];rfl
        refine hK.out _ _ ⟨c15,fun _=>cA5⟩ ?_
        clear hK K
        try simp only [Act.put,qa,qb,qc]
        refine xW (i:=6) (o:=⟨none,.store 24 (.tmp 5) (.tmp 25),_,_,_,none⟩) (by kernel_rfl) rfl (by kernel_rfl) (fun K hK=>?_)
        go_simp
        refine hK.out _ _ (by rw [World.cell?,Below.heap_setCell _ ⟨A,0,none⟩ _ _ (by simp only;omega)];exact c15) ?_
        clear hK K
        try simp only [Act.put,qa,qb,qc]
        refine yY (by kernel_rfl) ⟨rfl,?_⟩ _
        have p3:=(H3.out.2.block _ (Array.getElem?_eq_some_iff.1 HBx.out.1).1 (by omega)).trans HBx.out.1
        have t3:=(H3.out.2.block _ (Array.getElem?_eq_some_iff.1 HBx.out.2.2).1 (by omega)).trans HBx.out.2.2
        have st:∀ k c t,w3.heap[k]?=some (.cells c t (0,0))->t≠87->k≠A->(w5.setCell ⟨A,0,none⟩ (.slice ad5 (all.length+1) cp5)).heap[k]?=some (.cells c t (0,0)):=fun k c t hk ht hkA=>
          (P2.block k (Array.getElem?_eq_some_iff.1 hk).1 (fun e=>e.elim hkA (ne k c t hk ht))).trans hk
        have hl6:Ln w0 V va b s2 (w5.setCell ⟨A,0,none⟩ (.slice ad5 (all.length+1) cp5)):=H3.out.1.keep (fun k hk=>by
          rcases hk with hk | hk
          · omega
          · obtain ⟨h2,_⟩:=yn hla3.row hk
            exact ⟨by omega,fun e=>by omega⟩) P2
        have ho6:Ofw (fun k=>k=b) w (w5.setCell ⟨A,0,none⟩ (.slice ad5 (all.length+1) cp5)):=(HE.out.2.1.trans H3.out.2).new P2 (fun i hi=>by
          rcases hi with hi | hi
          · omega
          · exact .inl (yn hla3.row hi).1)
        have hla6:LAt w.heap.size A 24 87 2 (T+1) (all++[aa]).length (encL encT (all++[aa])) (.slice ad5 (all.length+1) cp5) (w5.setCell ⟨A,0,none⟩ (.slice ad5 (all.length+1) cp5)):=by
          rw [Yx,List.length_append]
          exact P1
        have far:=hla3.far
        have hW3s:=hs3
        have kp:∀ k,(k=T∨k=W3.heap.size∨k=W3.heap.size+1)->(w5.setCell ⟨A,0,none⟩ (.slice ad5 (all.length+1) cp5)).heap[k]?=Wa.heap[k]?:=fun k hk=>by
          have hkA:k≠A:=by omega
          have hkb:k≠b:=by omega
          have hks:k<Wa.heap.size:=by have:=HSz.out;omega
          refine (P2.block k (Nat.lt_of_lt_of_le hks H3.out.2.size) (fun e=>?_)).trans (H3.out.2.block k hks hkb)
          rcases e with e | e
          · exact hkA e
          · rcases hk with hk | hk | hk
            · subst hk;exact ne _ _ _ t3 (by decide) e
            · have:=far k e;omega
            · have:=far k e;omega
        have hsz6:Wa.heap.size<=(w5.setCell ⟨A,0,none⟩ (.slice ad5 (all.length+1) cp5)).heap.size:=Nat.le_trans H3.out.2.size P2.size
        have HX6:=Hid.mk' (And.intro hla6 (And.intro hl6 ho6))
        have HB6:=Hid.mk' (And.intro (st _ _ _ p3 (by decide) (by omega)) (And.intro (st _ _ _ q3 (by decide) (by omega)) (st _ _ _ t3 (by decide) (by omega))))
        have HK6:=Hid.mk' (And.intro hsz6 kp)
        clear P1 P2 P3 g1 g2 g3 hla3 hla6 hl6 ho6 kp st p3 q3 t3 hsz6 ne far
        gi_wp2
        exact ⟨.inl ⟨rfl,s2,⟨k,all++[aa],_,HX6.out.1,HX6.out.2.1,HX6.out.2.2,HB6.out,by simp;omega,HGo.out⟩,HM1.out⟩,HK6.out⟩
    case done=>
      rintro s' W ⟨k,all,v,hla,hl,ho,_,hk,hgo⟩ ht hK
      have hR:RR=(all,s'):=by
        rw [<-hgo]
        cases k <;> (unfold yK;rw [ht])
      have c2:W.cell? ⟨A,0,none⟩=some v:=by rw [yd hla.box 0];rfl
      have HR:Hid (RR=(all,s')):=hR
      clear hR hgo
      gi_wp2
      refine ⟨by simp,.inl ⟨_,_,rfl,run_takeDeferred hK,?_⟩⟩
      have hp:=zd (S:=fun k=>k=W3.heap.size) W W3.heap.size (.deferred none) rfl
      refine ⟨_,results_tmp rfl _ _ _,v,rfl,?_,?_,?_⟩
      · rw [HR.out];exact hl.keep (fun k hk=>by omega) hp
      · exact ho.new hp (fun i hi=>by omega)
      · rw [HR.out];exact yB hla.row (fun g hg e=>by have h1:=hla.far g hg;have e':g=W3.heap.size:=e;omega) hp
    case stop=>
      rintro c W ⟨rfl,v,hla,hl,ho⟩ hK
      have c2:W.cell? ⟨A,0,none⟩=some v:=by rw [yd hla.box 0];rfl
      refine wpIn_exit ?_
      gi_wp2
      refine ⟨by simp,.inl ⟨_,_,rfl,run_takeDeferred hK,?_⟩⟩
      have hp:=zd (S:=fun k=>k=W3.heap.size) W W3.heap.size (.deferred none) rfl
      exact ⟨_,results_tmp rfl _ _ _,v,rfl,hl.keep (fun k hk=>by omega) hp,ho.new hp (fun i hi=>by omega),yB hla.row (fun g hg e=>by have h1:=hla.far g hg;have e':g=W3.heap.size:=e;omega) hp⟩
end Go.Proofs.YthohnmplbjhjaaaGreatDoor
