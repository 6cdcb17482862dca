/-
  Put together: MdFault, MdFaultAny.
-/
import Derived.Test.YthohnmplbjhjaaaGreatDoorQs
import Derived.Test.YthohnmplbjhjaaaGreatDoorJ06
import Derived.Test.YthohnmplbjhjaaaGreatDoorJ12
import Derived.Deep.RegionHeld3
import Derived.Laws.StructEq
import Derived.Shelf.Abstract
namespace Go.Proofs.YthohnmplbjhjaaaGreatDoor
open Go.RowKit
set_option maxHeartbeats 4000000
set_option maxRecDepth 10000
theorem y0w : (Tryz.prog.fieldsOf 122).toList.map (fun f => (f.name, f.type, f.offset)) = [("kind", 3, 0), ("op", 3, 1), ("k", 3, 2), ("v", 3, 3), ("x", 3, 4), ("y", 3, 5)] := by kernel_rfl
theorem y0x:Tryz.prog.underlying 3=some (.int .i64):=by kernel_rfl
theorem XM (a1 a2 a3 a4 a5 a6:Value) (w:World):(part 3 #[a1,a2,a3,a4,a5,a6] 0).run Tryz.prog w=.ok a1 w/\(part 3 #[a1,a2,a3,a4,a5,a6] 1).run Tryz.prog w=.ok a2 w/\(part 3 #[a1,a2,a3,a4,a5,a6] 2).run Tryz.prog w=.ok a3 w /\
  (part 3 #[a1,a2,a3,a4,a5,a6] 3).run Tryz.prog w=.ok a4 w/\(part 3 #[a1,a2,a3,a4,a5,a6] 4).run Tryz.prog w=.ok a5 w/\(part 3 #[a1,a2,a3,a4,a5,a6] 5).run Tryz.prog w=.ok a6 w:=
 ⟨by kernel_rfl,by kernel_rfl,by kernel_rfl,by kernel_rfl,by kernel_rfl,by kernel_rfl⟩
theorem Z6 (a1 a2 a3 a4 a5 a6 b1 b2 b3 b4 b5 b6:Int) (w:World) :
  (binOp .neq 122 (.agg #[.int .i64 a1,.int .i64 a2,.int .i64 a3,.int .i64 a4,.int .i64 a5,.int .i64 a6]) (.agg #[.int .i64 b1,.int .i64 b2,.int .i64 b3,.int .i64 b4,.int .i64 b5,.int .i64 b6])).run Tryz.prog w
   = .ok (.bool (!(a1==b1&&a2==b2&&a3==b3&&a4==b4&&a5==b5&&a6==b6))) w:=by
 rw [run_neq_struct,run_equalIn_struct (d:=9999) (ht:=by kernel_rfl) (hp:=by kernel_rfl)]
 have hf:=y0w
 generalize (Tryz.prog.fieldsOf 122).toList=l at *
 simp only [List.map_eq_cons_iff,List.map_eq_nil_iff,Prod.mk.injEq] at hf
 obtain ⟨f1,l1,rfl,⟨n1,t1,o1⟩,f2,l2,rfl,⟨n2,t2,o2⟩,f3,l3,rfl,⟨n3,t3,o3⟩,f4,l4,rfl,⟨n4,t4,o4⟩,f5,l5,rfl,⟨n5,t5,o5⟩,f6,l6,rfl,⟨n6,t6,o6⟩,rfl⟩:=hf
 have pa:=XM (.int .i64 a1) (.int .i64 a2) (.int .i64 a3) (.int .i64 a4) (.int .i64 a5) (.int .i64 a6) w
 have pb:=XM (.int .i64 b1) (.int .i64 b2) (.int .i64 b3) (.int .i64 b4) (.int .i64 b5) (.int .i64 b6) w
 have eq:=fun a b=>run_equalIn_int (P:=Tryz.prog) w 9998 3 .i64 .i64 a b y0x
 simp only [Op.eqFields,n1,n2,n3,n4,n5,n6,t1,t2,t3,t4,t5,t6,o1,o2,o3,o4,o5,o6,Sem.run_bind,pa,pb,eq,Result.andThen_ok,Sem.run_ite,Sem.run_pure]
 cases a1==b1 <;> cases a2==b2 <;> cases a3==b3 <;> cases a4==b4 <;> cases a5==b5 <;> cases a6==b6 <;> simp [Result.andThen]
theorem XN {c:Md.Cn} {o1 k1 v1 x1 y1:Int} (h:yz c.kind o1 k1 v1 x1 y1=yz c.kind (if Md.fOp c.kind then c.op else 0) (if Md.fK c.kind then c.k else 0) (if Md.fV c.kind then c.v else 0) (if Md.fX c.kind then c.x else 0) (if Md.fY c.kind then c.y else 0)) :
  (!(c.kind==c.kind&&o1==c.op&&k1==c.k&&v1==c.v&&x1==c.x&&y1==c.y))=Md.plainBad c:=by
 simp only [yz,Value.agg.injEq,Array.mk.injEq,List.cons.injEq,Value.int.injEq,and_true,true_and] at h
 obtain ⟨rfl,rfl,rfl,rfl,rfl⟩:=h
 unfold Md.plainBad
 cases Md.fOp c.kind <;> cases Md.fK c.kind <;> cases Md.fV c.kind <;> cases Md.fX c.kind <;> cases Md.fY c.kind <;> simp [bne,Bool.beq_eq_decide_eq,eq_comm]
def zx (c:Md.Cn):Value:=yz c.kind (if Md.fOp c.kind then c.op else 0) (if Md.fK c.kind then c.k else 0) (if Md.fV c.kind then c.v else 0) (if Md.fX c.kind then c.x else 0) (if Md.fY c.kind then c.y else 0)
structure KindIs (k:Int) (o h:Nat) (b:Bool) (m0 m1 m2 m3:Nat):Prop where
 of:∀ w,Calls Tryz.prog 58 #[.int .i64 k] w fun e w'=>e=.returned (.tuple #[yW o h b m0 m1 m2 m3,.bool true])/\Below w.heap.size w w'
 own:∀ (c:Md.Cn) vt vx vb vr w,c.kind=k->CnAt w c vt vx vb vr->Calls Tryz.prog o #[yv c vt vx vb vr] w fun e w'=>e=.returned (zx c)/\Below w.heap.size w w'
 ent:Enters Tryz.prog o
 enh:Enters Tryz.prog h
 op:Md.fOp k=b
 e0:m0=if Md.fTerms k then 64 else 0
 e1:m1=if Md.fXs k then Md.mostXs k else 0
 e2:m2=if Md.fTable k then 64 else 0
 e3:m3=if Md.fRows k then 64 else 0
theorem y0y {c:Md.Cn} {o h:Nat} {b:Bool} {m0 m1 m2 m3:Nat} (H:KindIs c.kind o h b m0 m1 m2 m3):(othQ c.terms.length m0||othQ c.xs.length m1||othQ c.table.length m2||othQ c.rows.length m3)=Md.listBad c:=by
 rw [H.e0,H.e1,H.e2,H.e3]
 unfold othQ Md.listBad
 have hm:Md.mostXs c.kind≠0:=by unfold Md.mostXs;split <;> omega
 have hm':(Md.mostXs c.kind==0)=false:=by simpa using hm
 cases Md.fTerms c.kind <;> cases Md.fXs c.kind <;> cases Md.fTable c.kind <;> cases Md.fRows c.kind <;> simp [hm']
theorem y0z {c:Md.Cn} {o h:Nat} {b:Bool} {m0 m1 m2 m3:Nat} (H:KindIs c.kind o h b m0 m1 m2 m3):(manQ c.terms.length m0||manQ c.xs.length m1||manQ c.table.length m2||manQ c.rows.length m3||!(c.rows.all fun r=>r.length==c.xs.length))=Md.manyBad c:=by
 rw [H.e0,H.e1,H.e2,H.e3]
 unfold manQ Md.manyBad
 have hm:0<Md.mostXs c.kind:=by unfold Md.mostXs;split <;> omega
 cases Md.fTerms c.kind <;> cases Md.fXs c.kind <;> cases Md.fTable c.kind <;> cases Md.fRows c.kind <;> simp [hm]
theorem y0A {c:Md.Cn} {n:Int} (h:Md.fOp c.kind=true/\(c.op<1∨3<c.op)):Md.fault c n=43:=by
 have:Md.kindBad c.kind c.op=true:=by simp [Md.kindBad,h.1,h.2]
 simp [Md.fault,this]
theorem y0B {c:Md.Cn} (hk:1<=c.kind/\c.kind<=9) (h:¬ (Md.fOp c.kind=true/\(c.op<1∨3<c.op))):Md.kindBad c.kind c.op=false:=by
 rw [<-Bool.not_eq_true]
 simp only [Md.kindBad,Bool.or_eq_true,Bool.and_eq_true,decide_eq_true_eq]
 rintro (h1 | h1)
 ·omega
 ·exact h h1
def Cf (W:World) (N M:Nat) (c:Md.Cn) (ta:Option Addr) (tc:Nat) (xa:Option Addr) (xc:Nat) (ba:Option Addr) (bc:Nat) (ra:Option Addr) (rc:Nat) (o h:Nat) (b:Bool) (m0 m1 m2 m3:Nat) (w':World):Prop:=w'.cell? ⟨N,0,none⟩=some (.int .i64 c.kind)/\w'.cell? ⟨N,1,none⟩=some (.int .i64 c.op)/\w'.cell? ⟨N,2,none⟩=some (.slice ta c.terms.length tc)/\w'.cell? ⟨N,3,none⟩=some (.int .i64 c.k)/\w'.cell? ⟨N,4,none⟩=some (.int .i64 c.v)/\w'.cell? ⟨N,5,none⟩=some (.int .i64 c.x)/\w'.cell? ⟨N,6,none⟩=some (.int .i64 c.y)/\w'.cell? ⟨N,7,none⟩=some (.slice xa c.xs.length xc)/\w'.cell? ⟨N,8,none⟩=some (.slice ba c.table.length bc)/\w'.cell? ⟨N,9,none⟩=some (.slice ra c.rows.length rc)/\w'.cell? ⟨M,0,none⟩=some (.func (.func o) #[] #[])/\w'.cell? ⟨M,1,none⟩=some (.bool b)/\w'.cell? ⟨M,2,none⟩=some (.int .i64 (m0:Int))/\w'.cell? ⟨M,3,none⟩=some (.int .i64 (m1:Int))/\w'.cell? ⟨M,4,none⟩=some (.int .i64 (m2:Int))/\w'.cell? ⟨M,5,none⟩=some (.int .i64 (m3:Int))/\w'.cell? ⟨M,6,none⟩=some (.func (.func h) #[] #[])/\N<w'.heap.size/\M<w'.heap.size/\CnAt w' c (.slice ta c.terms.length tc) (.slice xa c.xs.length xc) (.slice ba c.table.length bc) (.slice ra c.rows.length rc)/\Below W.heap.size W w'
theorem Cf.next {W:World} {N M:Nat} {c:Md.Cn} {ta:Option Addr} {tc:Nat} {xa:Option Addr} {xc:Nat} {ba:Option Addr} {bc:Nat} {ra:Option Addr} {rc:Nat} {o h:Nat} {b:Bool} {m0 m1 m2 m3:Nat} {w1 w2:World} (H:Cf W N M c ta tc xa xc ba bc ra rc o h b m0 m1 m2 m3 w1) (hb:Below w1.heap.size w1 w2):Cf W N M c ta tc xa xc ba bc ra rc o h b m0 m1 m2 m3 w2:=by
 obtain ⟨a0,a1,a2,a3,a4,a5,a6,a7,a8,a9,b0,b1,b2,b3,b4,b5,b6,hN,hM,hC,hW⟩:=H
 exact ⟨(hb.cell (p:=⟨N,0,none⟩) hN).trans a0,(hb.cell (p:=⟨N,1,none⟩) hN).trans a1,(hb.cell (p:=⟨N,2,none⟩) hN).trans a2,(hb.cell (p:=⟨N,3,none⟩) hN).trans a3,(hb.cell (p:=⟨N,4,none⟩) hN).trans a4,(hb.cell (p:=⟨N,5,none⟩) hN).trans a5,(hb.cell (p:=⟨N,6,none⟩) hN).trans a6,(hb.cell (p:=⟨N,7,none⟩) hN).trans a7,(hb.cell (p:=⟨N,8,none⟩) hN).trans a8,(hb.cell (p:=⟨N,9,none⟩) hN).trans a9,(hb.cell (p:=⟨M,0,none⟩) hM).trans b0,(hb.cell (p:=⟨M,1,none⟩) hM).trans b1,(hb.cell (p:=⟨M,2,none⟩) hM).trans b2,(hb.cell (p:=⟨M,3,none⟩) hM).trans b3,(hb.cell (p:=⟨M,4,none⟩) hM).trans b4,(hb.cell (p:=⟨M,5,none⟩) hM).trans b5,(hb.cell (p:=⟨M,6,none⟩) hM).trans b6,Nat.lt_of_lt_of_le hN hb.size,Nat.lt_of_lt_of_le hM hb.size,hC.below hb,hW.trans (hb.mono hW.size)⟩
theorem Cf.cn {W:World} {N M:Nat} {c:Md.Cn} {ta:Option Addr} {tc:Nat} {xa:Option Addr} {xc:Nat} {ba:Option Addr} {bc:Nat} {ra:Option Addr} {rc:Nat} {o h:Nat} {b:Bool} {m0 m1 m2 m3:Nat} {w1:World} (H:Cf W N M c ta tc xa xc ba bc ra rc o h b m0 m1 m2 m3 w1):CnAt w1 c (.slice ta c.terms.length tc) (.slice xa c.xs.length xc) (.slice ba c.table.length bc) (.slice ra c.rows.length rc):=H.2.2.2.2.2.2.2.2.2.2.2.2.2.2.2.2.2.2.2.1
theorem Cf.rest {W:World} {N M:Nat} {c:Md.Cn} {ta:Option Addr} {tc:Nat} {xa:Option Addr} {xc:Nat} {ba:Option Addr} {bc:Nat} {ra:Option Addr} {rc:Nat} {o h:Nat} {b:Bool} {m0 m1 m2 m3:Nat} {w1:World} (H:Cf W N M c ta tc xa xc ba bc ra rc o h b m0 m1 m2 m3 w1):Below W.heap.size W w1:=H.2.2.2.2.2.2.2.2.2.2.2.2.2.2.2.2.2.2.2.2
theorem xJ {o h:Nat} {b:Bool} {m0 m1 m2 m3:Nat} (c:Md.Cn) (vt vx vb vr:Value) (n:Int) (w:World) (HK:KindIs c.kind o h b m0 m1 m2 m3) (hC:CnAt w c vt vx vb vr) (hk:1<=c.kind/\c.kind<=9) :
  Calls Tryz.prog 34 #[yv c vt vx vb vr,.int .i64 n] w fun e w'=>e=.returned (.int .i64 (Md.fault c n))/\Below w.heap.size w w':=by
 obtain ⟨ta,tc,rfl,_⟩:=id hC.t
 obtain ⟨xa,xc,rfl,_⟩:=id hC.x
 obtain ⟨ba,bc,rfl,_⟩:=id hC.b
 obtain ⟨ra,rc,rfl,_⟩:=id hC.r
 have HK1:Hid (KindIs c.kind o h b m0 m1 m2 m3):=HK
 have HC:Hid (CnAt w c (.slice ta c.terms.length tc) (.slice xa c.xs.length xc) (.slice ba c.table.length bc) (.slice ra c.rows.length rc)):=hC
 have HR:Hid (∃ r,Md.fault c n=r):=⟨_,rfl⟩
 clear HK hC
 have H96:Hid (∀ w',CnAt w' c (.slice ta c.terms.length tc) (.slice xa c.xs.length xc) (.slice ba c.table.length bc) (.slice ra c.rows.length rc)->Calls Tryz.prog 51 #[yv c (.slice ta c.terms.length tc) (.slice xa c.xs.length xc) (.slice ba c.table.length bc) (.slice ra c.rows.length rc)] w' fun e w''=>e=.returned (yz c.kind c.op c.k c.v c.x c.y)/\Below w'.heap.size w' w''):=fun w' h'=>ZQ c _ _ _ _ w' h'
 have H97:Hid (∀ w',CnAt w' c (.slice ta c.terms.length tc) (.slice xa c.xs.length xc) (.slice ba c.table.length bc) (.slice ra c.rows.length rc)->Calls Tryz.prog 59 #[yv c (.slice ta c.terms.length tc) (.slice xa c.xs.length xc) (.slice ba c.table.length bc) (.slice ra c.rows.length rc),zR m0 m1 m2 m3] w' fun e w''=>e=.returned (.bool (othQ c.terms.length m0||othQ c.xs.length m1||othQ c.table.length m2||othQ c.rows.length m3))/\Below w'.heap.size w' w''):=fun w' h'=>y0C c _ _ _ _ m0 m1 m2 m3 w' h'
 have H98:Hid (∀ w',CnAt w' c (.slice ta c.terms.length tc) (.slice xa c.xs.length xc) (.slice ba c.table.length bc) (.slice ra c.rows.length rc)->Calls Tryz.prog 60 #[yv c (.slice ta c.terms.length tc) (.slice xa c.xs.length xc) (.slice ba c.table.length bc) (.slice ra c.rows.length rc),zR m0 m1 m2 m3] w' fun e w''=>e=.returned (.bool (!(manQ c.terms.length m0||manQ c.xs.length m1||manQ c.table.length m2||manQ c.rows.length m3||!(c.rows.all fun r=>r.length==c.xs.length))))/\Below w'.heap.size w' w''):=fun w' h'=>y0D c _ _ _ _ m0 m1 m2 m3 w' h'
 have H99:Hid (∀ w',CnAt w' c (.slice ta c.terms.length tc) (.slice xa c.xs.length xc) (.slice ba c.table.length bc) (.slice ra c.rows.length rc)->Calls Tryz.prog 61 #[yv c (.slice ta c.terms.length tc) (.slice xa c.xs.length xc) (.slice ba c.table.length bc) (.slice ra c.rows.length rc),.int .i64 n] w' fun e w''=>e=.returned (.bool (Md.placesB c n))/\Below w'.heap.size w' w''):=fun w' h'=>y0E c _ _ _ _ n w' h'
 have HOB:Hid ((othQ c.terms.length m0||othQ c.xs.length m1||othQ c.table.length m2||othQ c.rows.length m3)=Md.listBad c):=y0y HK1.out
 have HMB:Hid ((manQ c.terms.length m0||manQ c.xs.length m1||manQ c.table.length m2||manQ c.rows.length m3||!(c.rows.all fun r=>r.length==c.xs.length))=Md.manyBad c):=y0z HK1.out
 rw [HOB.out] at H97
 rw [HMB.out] at H98
 unfold yv yz at H96
 unfold yv zR at H97 H98
 unfold yv at H99
 unfold yv
 go_enter Tryz.func34,Tryz.ntmps34
 go_wp2_with fail
 refine (HK1.out.of _).mono ?_
 rintro e w1 ⟨rfl,hb1⟩
 unfold yW
 have hbw:Below w.heap.size w w1:=((Below.refl _ _).alloc (Nat.le_refl _) _).trans (hb1.mono (by simp))
 have hN:w.heap.size<w1.heap.size:=by have:=hb1.size;simp at this;omega
 have h0:=(hb1.block w.heap.size (by simp)).trans (heap_alloc_new w _)
 obtain ⟨V,hV⟩:∃ V,w1.alloc (.cells #[.func (.func o) #[] #[],.bool b,.int .i64 (m0:Int),.int .i64 (m1:Int),.int .i64 (m2:Int),.int .i64 (m3:Int),.func (.func h) #[] #[]] 132)=V:=⟨_,rfl⟩
 have hbV:Below w1.heap.size w1 V:=by rw [<-hV];exact (Below.refl _ _).alloc (Nat.le_refl _) _
 have h0V:=(hbV.block w.heap.size hN).trans h0
 have h1V:V.heap[w1.heap.size]?=some (.cells #[.func (.func o) #[] #[],.bool b,.int .i64 (m0:Int),.int .i64 (m1:Int),.int .i64 (m2:Int),.int .i64 (m3:Int),.func (.func h) #[] #[]] 132):=by rw [<-hV];exact heap_alloc_new w1 _
 have hMV:w1.heap.size<V.heap.size:=(Array.getElem?_eq_some_iff.1 h1V).1
 have hCf:Cf V w.heap.size w1.heap.size c ta tc xa xc ba bc ra rc o h b m0 m1 m2 m3 V:=by
  refine ⟨?_,?_,?_,?_,?_,?_,?_,?_,?_,?_,?_,?_,?_,?_,?_,?_,?_,Nat.lt_trans hN hMV,hMV,(HC.out.below hbw).below hbV,Below.refl _ _⟩
  all_goals simp [World.cell?,h0V,h1V]
 have HCf:Hid (Cf V w.heap.size w1.heap.size c ta tc xa xc ba bc ra rc o h b m0 m1 m2 m3 V):=hCf
 have HBV:Hid (Below w.heap.size w V):=hbw.trans (hbV.mono hbw.size)
 have HH:Hid (KindIs c.kind o h b m0 m1 m2 m3/\1<=c.kind/\c.kind<=9):=⟨HK1.out,hk⟩
 obtain ⟨a0,a1,a2,a3,a4,a5,a6,a7,a8,a9,b0,b1,b2,b3,b4,b5,b6,_,_,_,_⟩:=hCf
 clear h0 h0V h1V hMV hbV hb1 HK1 HC hbw hk
 obtain ⟨M,hM⟩:∃ M,w1.heap.size=M:=⟨_,rfl⟩
 rw [hM] at HCf b0 b1 b2 b3 b4 b5 b6
 by_cases hkb:Md.fOp c.kind=true/\(c.op<1∨3<c.op)
 ·have hres:Hid (Md.fault c n=43):=y0A hkb
  obtain ⟨hf,hop⟩:=hkb
  have hbt:b=true:=HH.out.1.op.symm.trans hf
  subst hbt
  clear hf
  rcases hop with hop | hop
  ·go_wp2_with fail
   go_ret
   exact ⟨yB hres.out.symm,HBV.out⟩
  ·have hop':¬ c.op<1:=by omega
   go_wp2_with fail
   go_ret
   exact ⟨yB hres.out.symm,HBV.out⟩
 ·have hkb':Hid (Md.kindBad c.kind c.op=false):=y0B HH.out.2 hkb
  have hop:b=false∨b=true/\1<=c.op/\c.op<=3:=by
   have h1:=HH.out.1.op
   rcases Bool.eq_false_or_eq_true b with hb | hb
   ·refine .inr ⟨hb,?_⟩
    rw [hb] at h1
    have:¬ (c.op<1∨3<c.op):=fun h=>hkb ⟨h1,h⟩
    omega
   ·exact .inl hb
  clear hkb
  rcases hop with hb | ⟨hb,ho1,ho2⟩
  ·subst hb
   obtain ⟨o1,k1,v1,x1,y1,hpv⟩:∃ o1 k1 v1 x1 y1,yz c.kind o1 k1 v1 x1 y1=zx c:=⟨_,_,_,_,_,rfl⟩
   have hsm:=XN hpv
   have HO:Hid (∀ w',CnAt w' c (.slice ta c.terms.length tc) (.slice xa c.xs.length xc) (.slice ba c.table.length bc) (.slice ra c.rows.length rc)->Calls Tryz.prog o #[yv c (.slice ta c.terms.length tc) (.slice xa c.xs.length xc) (.slice ba c.table.length bc) (.slice ra c.rows.length rc)] w' fun e w''=>e=.returned (yz c.kind o1 k1 v1 x1 y1)/\Below w'.heap.size w' w''):=fun w' hC'=>by
    rw [hpv];exact HH.out.1.own c _ _ _ _ w' rfl hC'
   clear hpv
   unfold yv yz at HO
   have he:=HH.out.1.ent
   unfold Enters at he
   cases hpb:Md.plainBad c
   ·rw [hpb] at hsm
    have hbin:∀ w',(binOp .neq 122 (.agg #[.int .i64 c.kind,.int .i64 o1,.int .i64 k1,.int .i64 v1,.int .i64 x1,.int .i64 y1]) (.agg #[.int .i64 c.kind,.int .i64 c.op,.int .i64 c.k,.int .i64 c.v,.int .i64 c.x,.int .i64 c.y])).run Tryz.prog w'=.ok (.bool false) w':=fun w'=>by rw [Z6,hsm]
    have HPB:Hid (Md.plainBad c=false):=hpb
    clear hsm hpb
    go_wp2_with fail
    go_region_held3 (fun w'=>w'.cell? ⟨w.heap.size,0,none⟩=some (.int .i64 c.kind)/\w'.cell? ⟨w.heap.size,1,none⟩=some (.int .i64 c.op)/\w'.cell? ⟨w.heap.size,2,none⟩=some (.slice ta c.terms.length tc)/\w'.cell? ⟨w.heap.size,3,none⟩=some (.int .i64 c.k)/\w'.cell? ⟨w.heap.size,4,none⟩=some (.int .i64 c.v)/\w'.cell? ⟨w.heap.size,5,none⟩=some (.int .i64 c.x)/\w'.cell? ⟨w.heap.size,6,none⟩=some (.int .i64 c.y)/\w'.cell? ⟨w.heap.size,7,none⟩=some (.slice xa c.xs.length xc)/\w'.cell? ⟨w.heap.size,8,none⟩=some (.slice ba c.table.length bc)/\w'.cell? ⟨w.heap.size,9,none⟩=some (.slice ra c.rows.length rc)/\w'.cell? ⟨M,0,none⟩=some (.func (.func o) #[] #[])/\w'.cell? ⟨M,1,none⟩=some (.bool false)/\w'.cell? ⟨M,2,none⟩=some (.int .i64 (m0:Int))/\w'.cell? ⟨M,3,none⟩=some (.int .i64 (m1:Int))/\w'.cell? ⟨M,4,none⟩=some (.int .i64 (m2:Int))/\w'.cell? ⟨M,5,none⟩=some (.int .i64 (m3:Int))/\w'.cell? ⟨M,6,none⟩=some (.func (.func h) #[] #[])/\w.heap.size<w'.heap.size/\M<w'.heap.size/\CnAt w' c (.slice ta c.terms.length tc) (.slice xa c.xs.length xc) (.slice ba c.table.length bc) (.slice ra c.rows.length rc)/\Below V.heap.size V w')
     (first | exact HCf.out.next (Below.refl _ _).drew | exact Cf.next (by assumption) (by assumption))
     (first
      | (go_at_fn o;refine cZ (HO.out _ (Cf.cn (by assumption))) ?_;rintro e w' ⟨rfl,hb⟩)
      | (go_at_call 51;refine cZ (H96.out _ (Cf.cn (by assumption))) ?_;rintro e w' ⟨rfl,hb⟩)
      | (go_at_call 59;refine cZ (H97.out _ (Cf.cn (by assumption))) ?_;rintro e w' ⟨rfl,hb⟩))
    rename_i hHeld
    have hS:Cf V w.heap.size M c ta tc xa xc ba bc ra rc o h false m0 m1 m2 m3 _:=hHeld
    obtain ⟨a0,a1,a2,a3,a4,a5,a6,a7,a8,a9,b0,b1,b2,b3,b4,b5,b6,_⟩:=hHeld
    cases hl:Md.listBad c
    ·cases hm:Md.manyBad c
     ·cases hp:Md.placesB c n
      ·have hres:Hid (Md.fault c n=44):=by show _=_;simp [Md.fault,hkb'.out,HPB.out,hl,hm,hp]
       go_wp2_with (first | (go_at_call 60;refine cZ (H98.out _ (Cf.cn hS)) ?_;rintro e w8 ⟨rfl,hb8⟩;have hS:=Cf.next hS hb8;obtain ⟨a0,a1,a2,a3,a4,a5,a6,a7,a8,a9,b0,b1,b2,b3,b4,b5,b6,_⟩:=id hS) | (go_at_call 61;refine cZ (H99.out _ (Cf.cn hS)) ?_;rintro e w9 ⟨rfl,hb9⟩;have hS:=Cf.next hS hb9;obtain ⟨a0,a1,a2,a3,a4,a5,a6,a7,a8,a9,b0,b1,b2,b3,b4,b5,b6,_⟩:=id hS) | (go_at_call 62;refine cZ (zC _ c.terms _ (Cf.cn hS).t) ?_;rintro e wa ⟨rfl,hba⟩;have hS:=Cf.next hS hba;obtain ⟨a0,a1,a2,a3,a4,a5,a6,a7,a8,a9,b0,b1,b2,b3,b4,b5,b6,_⟩:=id hS) | (go_at_call 57;refine (ze _ _).mono ?_;rintro e wn ⟨rfl,rfl⟩) | (go_at_call 63;refine (zB _ c.table _ (Cf.cn hS).b).mono ?_;rintro e wn ⟨rfl,rfl⟩) | (go_at_call 64;refine (zK _ c.rows _ (Cf.cn hS).r).mono ?_;rintro e wn ⟨rfl,rfl⟩))
       go_ret
       exact ⟨yB hres.out.symm,HBV.out.trans ((Cf.rest hS).mono HBV.out.size)⟩
      ·cases hco:Md.coefsB c.terms
       ·have hres:Hid (Md.fault c n=45):=by show _=_;simp [Md.fault,hkb'.out,HPB.out,hl,hm,hp,hco]
        go_wp2_with (first | (go_at_call 60;refine cZ (H98.out _ (Cf.cn hS)) ?_;rintro e w8 ⟨rfl,hb8⟩;have hS:=Cf.next hS hb8;obtain ⟨a0,a1,a2,a3,a4,a5,a6,a7,a8,a9,b0,b1,b2,b3,b4,b5,b6,_⟩:=id hS) | (go_at_call 61;refine cZ (H99.out _ (Cf.cn hS)) ?_;rintro e w9 ⟨rfl,hb9⟩;have hS:=Cf.next hS hb9;obtain ⟨a0,a1,a2,a3,a4,a5,a6,a7,a8,a9,b0,b1,b2,b3,b4,b5,b6,_⟩:=id hS) | (go_at_call 62;refine cZ (zC _ c.terms _ (Cf.cn hS).t) ?_;rintro e wa ⟨rfl,hba⟩;have hS:=Cf.next hS hba;obtain ⟨a0,a1,a2,a3,a4,a5,a6,a7,a8,a9,b0,b1,b2,b3,b4,b5,b6,_⟩:=id hS) | (go_at_call 57;refine (ze _ _).mono ?_;rintro e wn ⟨rfl,rfl⟩) | (go_at_call 63;refine (zB _ c.table _ (Cf.cn hS).b).mono ?_;rintro e wn ⟨rfl,rfl⟩) | (go_at_call 64;refine (zK _ c.rows _ (Cf.cn hS).r).mono ?_;rintro e wn ⟨rfl,rfl⟩))
        go_ret
        exact ⟨yB hres.out.symm,HBV.out.trans ((Cf.rest hS).mono HBV.out.size)⟩
       ·cases hnk:Md.numB c.k
        ·have hres:Hid (Md.fault c n=46):=by show _=_;simp [Md.fault,hkb'.out,HPB.out,hl,hm,hp,hco,Md.numsB,hnk]
         go_wp2_with (first | (go_at_call 60;refine cZ (H98.out _ (Cf.cn hS)) ?_;rintro e w8 ⟨rfl,hb8⟩;have hS:=Cf.next hS hb8;obtain ⟨a0,a1,a2,a3,a4,a5,a6,a7,a8,a9,b0,b1,b2,b3,b4,b5,b6,_⟩:=id hS) | (go_at_call 61;refine cZ (H99.out _ (Cf.cn hS)) ?_;rintro e w9 ⟨rfl,hb9⟩;have hS:=Cf.next hS hb9;obtain ⟨a0,a1,a2,a3,a4,a5,a6,a7,a8,a9,b0,b1,b2,b3,b4,b5,b6,_⟩:=id hS) | (go_at_call 62;refine cZ (zC _ c.terms _ (Cf.cn hS).t) ?_;rintro e wa ⟨rfl,hba⟩;have hS:=Cf.next hS hba;obtain ⟨a0,a1,a2,a3,a4,a5,a6,a7,a8,a9,b0,b1,b2,b3,b4,b5,b6,_⟩:=id hS) | (go_at_call 57;refine (ze _ _).mono ?_;rintro e wn ⟨rfl,rfl⟩) | (go_at_call 63;refine (zB _ c.table _ (Cf.cn hS).b).mono ?_;rintro e wn ⟨rfl,rfl⟩) | (go_at_call 64;refine (zK _ c.rows _ (Cf.cn hS).r).mono ?_;rintro e wn ⟨rfl,rfl⟩))
         go_ret
         exact ⟨yB hres.out.symm,HBV.out.trans ((Cf.rest hS).mono HBV.out.size)⟩
        ·cases hnv:Md.numB c.v
         ·have hres:Hid (Md.fault c n=46):=by show _=_;simp [Md.fault,hkb'.out,HPB.out,hl,hm,hp,hco,Md.numsB,hnk,hnv]
          go_wp2_with (first | (go_at_call 60;refine cZ (H98.out _ (Cf.cn hS)) ?_;rintro e w8 ⟨rfl,hb8⟩;have hS:=Cf.next hS hb8;obtain ⟨a0,a1,a2,a3,a4,a5,a6,a7,a8,a9,b0,b1,b2,b3,b4,b5,b6,_⟩:=id hS) | (go_at_call 61;refine cZ (H99.out _ (Cf.cn hS)) ?_;rintro e w9 ⟨rfl,hb9⟩;have hS:=Cf.next hS hb9;obtain ⟨a0,a1,a2,a3,a4,a5,a6,a7,a8,a9,b0,b1,b2,b3,b4,b5,b6,_⟩:=id hS) | (go_at_call 62;refine cZ (zC _ c.terms _ (Cf.cn hS).t) ?_;rintro e wa ⟨rfl,hba⟩;have hS:=Cf.next hS hba;obtain ⟨a0,a1,a2,a3,a4,a5,a6,a7,a8,a9,b0,b1,b2,b3,b4,b5,b6,_⟩:=id hS) | (go_at_call 57;refine (ze _ _).mono ?_;rintro e wn ⟨rfl,rfl⟩) | (go_at_call 63;refine (zB _ c.table _ (Cf.cn hS).b).mono ?_;rintro e wn ⟨rfl,rfl⟩) | (go_at_call 64;refine (zK _ c.rows _ (Cf.cn hS).r).mono ?_;rintro e wn ⟨rfl,rfl⟩))
          go_ret
          exact ⟨yB hres.out.symm,HBV.out.trans ((Cf.rest hS).mono HBV.out.size)⟩
         ·cases hnt:c.table.all Md.numB
          ·have hres:Hid (Md.fault c n=46):=by show _=_;simp [Md.fault,hkb'.out,HPB.out,hl,hm,hp,hco,Md.numsB,hnk,hnv,hnt]
           go_wp2_with (first | (go_at_call 60;refine cZ (H98.out _ (Cf.cn hS)) ?_;rintro e w8 ⟨rfl,hb8⟩;have hS:=Cf.next hS hb8;obtain ⟨a0,a1,a2,a3,a4,a5,a6,a7,a8,a9,b0,b1,b2,b3,b4,b5,b6,_⟩:=id hS) | (go_at_call 61;refine cZ (H99.out _ (Cf.cn hS)) ?_;rintro e w9 ⟨rfl,hb9⟩;have hS:=Cf.next hS hb9;obtain ⟨a0,a1,a2,a3,a4,a5,a6,a7,a8,a9,b0,b1,b2,b3,b4,b5,b6,_⟩:=id hS) | (go_at_call 62;refine cZ (zC _ c.terms _ (Cf.cn hS).t) ?_;rintro e wa ⟨rfl,hba⟩;have hS:=Cf.next hS hba;obtain ⟨a0,a1,a2,a3,a4,a5,a6,a7,a8,a9,b0,b1,b2,b3,b4,b5,b6,_⟩:=id hS) | (go_at_call 57;refine (ze _ _).mono ?_;rintro e wn ⟨rfl,rfl⟩) | (go_at_call 63;refine (zB _ c.table _ (Cf.cn hS).b).mono ?_;rintro e wn ⟨rfl,rfl⟩) | (go_at_call 64;refine (zK _ c.rows _ (Cf.cn hS).r).mono ?_;rintro e wn ⟨rfl,rfl⟩))
           go_ret
           exact ⟨yB hres.out.symm,HBV.out.trans ((Cf.rest hS).mono HBV.out.size)⟩
          ·cases hnr:c.rows.all (fun r=>r.all Md.numB)
           ·have hres:Hid (Md.fault c n=46):=by show _=_;simp [Md.fault,hkb'.out,HPB.out,hl,hm,hp,hco,Md.numsB,hnk,hnv,hnt,hnr]
            go_wp2_with (first | (go_at_call 60;refine cZ (H98.out _ (Cf.cn hS)) ?_;rintro e w8 ⟨rfl,hb8⟩;have hS:=Cf.next hS hb8;obtain ⟨a0,a1,a2,a3,a4,a5,a6,a7,a8,a9,b0,b1,b2,b3,b4,b5,b6,_⟩:=id hS) | (go_at_call 61;refine cZ (H99.out _ (Cf.cn hS)) ?_;rintro e w9 ⟨rfl,hb9⟩;have hS:=Cf.next hS hb9;obtain ⟨a0,a1,a2,a3,a4,a5,a6,a7,a8,a9,b0,b1,b2,b3,b4,b5,b6,_⟩:=id hS) | (go_at_call 62;refine cZ (zC _ c.terms _ (Cf.cn hS).t) ?_;rintro e wa ⟨rfl,hba⟩;have hS:=Cf.next hS hba;obtain ⟨a0,a1,a2,a3,a4,a5,a6,a7,a8,a9,b0,b1,b2,b3,b4,b5,b6,_⟩:=id hS) | (go_at_call 57;refine (ze _ _).mono ?_;rintro e wn ⟨rfl,rfl⟩) | (go_at_call 63;refine (zB _ c.table _ (Cf.cn hS).b).mono ?_;rintro e wn ⟨rfl,rfl⟩) | (go_at_call 64;refine (zK _ c.rows _ (Cf.cn hS).r).mono ?_;rintro e wn ⟨rfl,rfl⟩))
            go_ret
            exact ⟨yB hres.out.symm,HBV.out.trans ((Cf.rest hS).mono HBV.out.size)⟩
           ·have hres:Hid (Md.fault c n=0):=by show _=_;simp [Md.fault,hkb'.out,HPB.out,hl,hm,hp,hco,Md.numsB,hnk,hnv,hnt,hnr]
            go_wp2_with (first | (go_at_call 60;refine cZ (H98.out _ (Cf.cn hS)) ?_;rintro e w8 ⟨rfl,hb8⟩;have hS:=Cf.next hS hb8;obtain ⟨a0,a1,a2,a3,a4,a5,a6,a7,a8,a9,b0,b1,b2,b3,b4,b5,b6,_⟩:=id hS) | (go_at_call 61;refine cZ (H99.out _ (Cf.cn hS)) ?_;rintro e w9 ⟨rfl,hb9⟩;have hS:=Cf.next hS hb9;obtain ⟨a0,a1,a2,a3,a4,a5,a6,a7,a8,a9,b0,b1,b2,b3,b4,b5,b6,_⟩:=id hS) | (go_at_call 62;refine cZ (zC _ c.terms _ (Cf.cn hS).t) ?_;rintro e wa ⟨rfl,hba⟩;have hS:=Cf.next hS hba;obtain ⟨a0,a1,a2,a3,a4,a5,a6,a7,a8,a9,b0,b1,b2,b3,b4,b5,b6,_⟩:=id hS) | (go_at_call 57;refine (ze _ _).mono ?_;rintro e wn ⟨rfl,rfl⟩) | (go_at_call 63;refine (zB _ c.table _ (Cf.cn hS).b).mono ?_;rintro e wn ⟨rfl,rfl⟩) | (go_at_call 64;refine (zK _ c.rows _ (Cf.cn hS).r).mono ?_;rintro e wn ⟨rfl,rfl⟩))
            go_ret
            exact ⟨yB hres.out.symm,HBV.out.trans ((Cf.rest hS).mono HBV.out.size)⟩
     ·have hres:Hid (Md.fault c n=47):=by show _=_;simp [Md.fault,hkb'.out,HPB.out,hl,hm]
      go_wp2_with (first | (go_at_call 60;refine cZ (H98.out _ (Cf.cn hS)) ?_;rintro e w8 ⟨rfl,hb8⟩;have hS:=Cf.next hS hb8;obtain ⟨a0,a1,a2,a3,a4,a5,a6,a7,a8,a9,b0,b1,b2,b3,b4,b5,b6,_⟩:=id hS) | (go_at_call 61;refine cZ (H99.out _ (Cf.cn hS)) ?_;rintro e w9 ⟨rfl,hb9⟩;have hS:=Cf.next hS hb9;obtain ⟨a0,a1,a2,a3,a4,a5,a6,a7,a8,a9,b0,b1,b2,b3,b4,b5,b6,_⟩:=id hS) | (go_at_call 62;refine cZ (zC _ c.terms _ (Cf.cn hS).t) ?_;rintro e wa ⟨rfl,hba⟩;have hS:=Cf.next hS hba;obtain ⟨a0,a1,a2,a3,a4,a5,a6,a7,a8,a9,b0,b1,b2,b3,b4,b5,b6,_⟩:=id hS) | (go_at_call 57;refine (ze _ _).mono ?_;rintro e wn ⟨rfl,rfl⟩) | (go_at_call 63;refine (zB _ c.table _ (Cf.cn hS).b).mono ?_;rintro e wn ⟨rfl,rfl⟩) | (go_at_call 64;refine (zK _ c.rows _ (Cf.cn hS).r).mono ?_;rintro e wn ⟨rfl,rfl⟩))
      go_ret
      exact ⟨yB hres.out.symm,HBV.out.trans ((Cf.rest hS).mono HBV.out.size)⟩
    ·have hres:Hid (Md.fault c n=48):=by show _=_;simp [Md.fault,hkb'.out,HPB.out,hl]
     go_wp2_with (first | (go_at_call 60;refine cZ (H98.out _ (Cf.cn hS)) ?_;rintro e w8 ⟨rfl,hb8⟩;have hS:=Cf.next hS hb8;obtain ⟨a0,a1,a2,a3,a4,a5,a6,a7,a8,a9,b0,b1,b2,b3,b4,b5,b6,_⟩:=id hS) | (go_at_call 61;refine cZ (H99.out _ (Cf.cn hS)) ?_;rintro e w9 ⟨rfl,hb9⟩;have hS:=Cf.next hS hb9;obtain ⟨a0,a1,a2,a3,a4,a5,a6,a7,a8,a9,b0,b1,b2,b3,b4,b5,b6,_⟩:=id hS) | (go_at_call 62;refine cZ (zC _ c.terms _ (Cf.cn hS).t) ?_;rintro e wa ⟨rfl,hba⟩;have hS:=Cf.next hS hba;obtain ⟨a0,a1,a2,a3,a4,a5,a6,a7,a8,a9,b0,b1,b2,b3,b4,b5,b6,_⟩:=id hS) | (go_at_call 57;refine (ze _ _).mono ?_;rintro e wn ⟨rfl,rfl⟩) | (go_at_call 63;refine (zB _ c.table _ (Cf.cn hS).b).mono ?_;rintro e wn ⟨rfl,rfl⟩) | (go_at_call 64;refine (zK _ c.rows _ (Cf.cn hS).r).mono ?_;rintro e wn ⟨rfl,rfl⟩))
     go_ret
     exact ⟨yB hres.out.symm,HBV.out.trans ((Cf.rest hS).mono HBV.out.size)⟩
   ·rw [hpb] at hsm
    have hbin:∀ w',(binOp .neq 122 (.agg #[.int .i64 c.kind,.int .i64 o1,.int .i64 k1,.int .i64 v1,.int .i64 x1,.int .i64 y1]) (.agg #[.int .i64 c.kind,.int .i64 c.op,.int .i64 c.k,.int .i64 c.v,.int .i64 c.x,.int .i64 c.y])).run Tryz.prog w'=.ok (.bool true) w':=fun w'=>by rw [Z6,hsm]
    have HPB:Hid (Md.plainBad c=true):=hpb
    clear hsm hpb
    go_wp2_with fail
    refine wp_region_held_drew (S:=(fun w'=>w'.cell? ⟨w.heap.size,0,none⟩=some (.int .i64 c.kind)/\w'.cell? ⟨w.heap.size,1,none⟩=some (.int .i64 c.op)/\w'.cell? ⟨w.heap.size,2,none⟩=some (.slice ta c.terms.length tc)/\w'.cell? ⟨w.heap.size,3,none⟩=some (.int .i64 c.k)/\w'.cell? ⟨w.heap.size,4,none⟩=some (.int .i64 c.v)/\w'.cell? ⟨w.heap.size,5,none⟩=some (.int .i64 c.x)/\w'.cell? ⟨w.heap.size,6,none⟩=some (.int .i64 c.y)/\w'.cell? ⟨w.heap.size,7,none⟩=some (.slice xa c.xs.length xc)/\w'.cell? ⟨w.heap.size,8,none⟩=some (.slice ba c.table.length bc)/\w'.cell? ⟨w.heap.size,9,none⟩=some (.slice ra c.rows.length rc)/\w'.cell? ⟨M,0,none⟩=some (.func (.func o) #[] #[])/\w'.cell? ⟨M,1,none⟩=some (.bool false)/\w'.cell? ⟨M,2,none⟩=some (.int .i64 (m0:Int))/\w'.cell? ⟨M,3,none⟩=some (.int .i64 (m1:Int))/\w'.cell? ⟨M,4,none⟩=some (.int .i64 (m2:Int))/\w'.cell? ⟨M,5,none⟩=some (.int .i64 (m3:Int))/\w'.cell? ⟨M,6,none⟩=some (.func (.func h) #[] #[])/\w.heap.size<w'.heap.size/\M<w'.heap.size/\CnAt w' c (.slice ta c.terms.length tc) (.slice xa c.xs.length xc) (.slice ba c.table.length bc) (.slice ra c.rows.length rc)/\Below V.heap.size V w')) (by kernel_rfl) (HCf.out.next (Below.refl _ _).drew) (fun hHeld=>?_)
    refine wpAnyH_take (i := 0) (oi := ({ dst := some 31, op := Op.fieldAddr 132 (Operand.tmp 5) 0, type := 0, pos := "right.go:45", after := #[], guard := none } : Oper)) (v := ?_) rfl (by kernel_rfl) (by kernel_rfl) (by kernel_rfl) (fun _ _ _ h => h) (Or.inl ⟨by rfl, ?_⟩) (by assumption) ?_
    rotate_left
    ·(intro w hSw;(try dsimp only at hSw);go_simp;try with_reducible rfl)
    rotate_left
    try simp only [Act.put,qa,qb,qc]
    refine wpAnyH_take (i := 1) (oi := ({ dst := some 32, op := Op.load 123 (Operand.tmp 31), type := 123, pos := "right.go:45", after := #[{ on := 0, ground := Ground.data }], guard := none } : Oper)) (v := ?_) rfl (by kernel_rfl) (by kernel_rfl) (by kernel_rfl) (fun _ _ _ h => h) (Or.inl ⟨by rfl, ?_⟩) (by assumption) ?_
    rotate_left
    ·(intro w hSw;(try dsimp only at hSw);go_simp;try with_reducible rfl)
    rotate_left
    try simp only [Act.put,qa,qb,qc]
    refine wpAnyH_take (i := 2) (oi := ({ dst := some 33, op := Op.load 61 (Operand.tmp 2), type := 61, pos := "right.go:45", after := #[], guard := none } : Oper)) (v := ?_) rfl (by kernel_rfl) (by kernel_rfl) (by kernel_rfl) (fun _ _ _ h => h) (Or.inl ⟨by rfl, ?_⟩) (by assumption) ?_
    rotate_left
    ·(intro w hSw;(try dsimp only at hSw);go_simp;try with_reducible rfl)
    rotate_left
    try simp only [Act.put,qa,qb,qc]
    refine wpAnyH_take (i := 4) (oi := ({ dst := some 35, op := Op.load 61 (Operand.tmp 2), type := 61, pos := "right.go:45", after := #[], guard := none } : Oper)) (v := ?_) rfl (by kernel_rfl) (by kernel_rfl) (by kernel_rfl) (fun _ _ _ h => h) (Or.inl ⟨by rfl, ?_⟩) (by assumption) ?_
    rotate_left
    ·(intro w hSw;(try dsimp only at hSw);go_simp;try with_reducible rfl)
    rotate_left
    try simp only [Act.put,qa,qb,qc]
    refine wpAnyH_ready (rs:=[3]) (by kernel_rfl) (by simp) ?_
    refine AllReadyH.cons (o := ({ dst := some 34, op := Op.call { callee := Callee.value (Operand.tmp 32), args := #[Operand.tmp 33], argTypes := #[61] }, type := 122, pos := "right.go:45", after := #[{ on := 1, ground := Ground.data }, { on := 2, ground := Ground.data }], guard := none } : Oper)) rfl (fun K hK => ?_) AllReadyH.nil
    go_simp
    refine cZ (HO.out _ (Cf.cn (by assumption))) ?_;rintro e w' ⟨rfl,hb⟩
    go_wp2_with fail
    refine hK.out _ _ (Cf.next (by assumption) (by assumption)) (fun hHeld=>?_)
    clear hK K
    try simp only [Act.put,qa,qb,qc]
    refine wpAnyH_ready (rs:=[5]) (by kernel_rfl) (by simp) ?_
    refine AllReadyH.cons (o := ({ dst := some 36, op := Op.call { callee := Callee.value (Operand.func 51), args := #[Operand.tmp 35], argTypes := #[61] }, type := 122, pos := "right.go:45", after := #[{ on := 4, ground := Ground.data }, { on := 3, ground := Ground.chain }], guard := none } : Oper)) rfl (fun K hK => ?_) AllReadyH.nil
    go_simp
    refine cZ (H96.out _ (Cf.cn (by assumption))) ?_;rintro e w' ⟨rfl,hb⟩
    go_wp2_with fail
    refine hK.out _ _ (Cf.next (by assumption) (by assumption)) (fun hHeld=>?_)
    clear hK K
    try simp only [Act.put,qa,qb,qc]
    refine wpAnyH_take (i := 6) (oi := ({ dst := some 37, op := Op.binOp BinOp.neq 122 (Operand.tmp 34) (Operand.tmp 36) 122, type := 4, pos := "right.go:45", after := #[{ on := 3, ground := Ground.data }, { on := 5, ground := Ground.data }], guard := none } : Oper)) (v := ?_) rfl (by kernel_rfl) (by kernel_rfl) (by kernel_rfl) (fun _ _ _ h => h) (Or.inl ⟨by rfl, ?_⟩) (by assumption) ?_
    rotate_left
    ·(intro w hSw;(try dsimp only at hSw);go_simp;try with_reducible rfl)
    rotate_left
    try simp only [Act.put,qa,qb,qc]
    refine wpAnyH_take (i := 7) (oi := ({ dst := some 38, op := Op.move (Operand.tmp 37), type := 4, pos := "right.go:45", after := #[{ on := 6, ground := Ground.data }, { on := 5, ground := Ground.chain }], guard := none } : Oper)) (v := ?_) rfl (by kernel_rfl) (by kernel_rfl) (by kernel_rfl) (fun _ _ _ h => h) (Or.inl ⟨by rfl, ?_⟩) (by assumption) ?_
    rotate_left
    ·(intro w hSw;(try dsimp only at hSw);go_simp;try with_reducible rfl)
    rotate_left
    try simp only [Act.put,qa,qb,qc]
    refine wpAnyH_take (i := 8) (oi := ({ dst := some 39, op := Op.load 61 (Operand.tmp 2), type := 61, pos := "right.go:45", after := #[{ on := 7, ground := Ground.guard }], guard := some (7, false) } : Oper)) (v := undef) rfl (by kernel_rfl) (by kernel_rfl) (by kernel_rfl) (fun _ _ _ h => h) (Or.inr ⟨by rfl, rfl⟩) (by assumption) ?_
    try simp only [Act.put,qa,qb,qc]
    refine wpAnyH_take (i := 9) (oi := ({ dst := some 40, op := Op.fieldAddr 132 (Operand.tmp 5) 2, type := 0, pos := "right.go:45", after := #[{ on := 7, ground := Ground.guard }], guard := some (7, false) } : Oper)) (v := undef) rfl (by kernel_rfl) (by kernel_rfl) (by kernel_rfl) (fun _ _ _ h => h) (Or.inr ⟨by rfl, rfl⟩) (by assumption) ?_
    try simp only [Act.put,qa,qb,qc]
    refine wpAnyH_take (i := 10) (oi := ({ dst := some 41, op := Op.load 129 (Operand.tmp 40), type := 129, pos := "right.go:45", after := #[{ on := 9, ground := Ground.data }, { on := 7, ground := Ground.guard }], guard := some (7, false) } : Oper)) (v := undef) rfl (by kernel_rfl) (by kernel_rfl) (by kernel_rfl) (fun _ _ _ h => h) (Or.inr ⟨by rfl, rfl⟩) (by assumption) ?_
    try simp only [Act.put,qa,qb,qc]
    refine wpAnyH_take (i := 11) (oi := ({ dst := some 42, op := Op.call { callee := Callee.value (Operand.func 59), args := #[Operand.tmp 39, Operand.tmp 41], argTypes := #[61, 129] }, type := 4, pos := "right.go:45", after := #[{ on := 8, ground := Ground.data }, { on := 10, ground := Ground.data }, { on := 7, ground := Ground.chain }, { on := 7, ground := Ground.guard }], guard := some (7, false) } : Oper)) (v := undef) rfl (by kernel_rfl) (by kernel_rfl) (by kernel_rfl) (fun _ _ _ h => h) (Or.inr ⟨by rfl, rfl⟩) (by assumption) ?_
    try simp only [Act.put,qa,qb,qc]
    refine wpAnyH_take (i := 12) (oi := ({ dst := some 43, op := Op.pick (Operand.tmp 38) (Operand.const (Value.bool true)) (Operand.tmp 42), type := 4, pos := "right.go:45", after := #[{ on := 7, ground := Ground.data }, { on := 11, ground := Ground.data }], guard := none } : Oper)) (v := ?_) rfl (by kernel_rfl) (by kernel_rfl) (by kernel_rfl) (fun _ _ _ h => h) (Or.inl ⟨by rfl, ?_⟩) (by assumption) ?_
    rotate_left
    ·(intro w hSw;(try dsimp only at hSw);go_simp;try with_reducible rfl)
    rotate_left
    try simp only [Act.put,qa,qb,qc]
    refine wpAnyH_take (i := 13) (oi := ({ dst := some 30, op := Op.assign (Operand.tmp 43), type := 4, pos := "right.go:45", after := #[{ on := 12, ground := Ground.data }, { on := 11, ground := Ground.chain }], guard := none } : Oper)) (v := ?_) rfl (by kernel_rfl) (by kernel_rfl) (by kernel_rfl) (fun _ _ _ h => h) (Or.inl ⟨by rfl, ?_⟩) (by assumption) ?_
    rotate_left
    ·(intro w hSw;(try dsimp only at hSw);go_simp;try with_reducible rfl)
    rotate_left
    try simp only [Act.put,qa,qb,qc]
    refine wpAnyH_done (by kernel_rfl) ?_ _
    all_goals
     rename_i hHeld
     have hS:Cf V w.heap.size M c ta tc xa xc ba bc ra rc o h false m0 m1 m2 m3 _:=hHeld
     have hres:Hid (Md.fault c n=48):=by show _=_;simp [Md.fault,hkb'.out,HPB.out]
     go_wp2_with fail
     go_ret
     exact ⟨yB hres.out.symm,HBV.out.trans ((Cf.rest hS).mono HBV.out.size)⟩
  ·subst hb
   obtain ⟨o1,k1,v1,x1,y1,hpv⟩:∃ o1 k1 v1 x1 y1,yz c.kind o1 k1 v1 x1 y1=zx c:=⟨_,_,_,_,_,rfl⟩
   have hsm:=XN hpv
   have HO:Hid (∀ w',CnAt w' c (.slice ta c.terms.length tc) (.slice xa c.xs.length xc) (.slice ba c.table.length bc) (.slice ra c.rows.length rc)->Calls Tryz.prog o #[yv c (.slice ta c.terms.length tc) (.slice xa c.xs.length xc) (.slice ba c.table.length bc) (.slice ra c.rows.length rc)] w' fun e w''=>e=.returned (yz c.kind o1 k1 v1 x1 y1)/\Below w'.heap.size w' w''):=fun w' hC'=>by
    rw [hpv];exact HH.out.1.own c _ _ _ _ w' rfl hC'
   clear hpv
   unfold yv yz at HO
   have he:=HH.out.1.ent
   unfold Enters at he
   cases hpb:Md.plainBad c
   ·rw [hpb] at hsm
    have hbin:∀ w',(binOp .neq 122 (.agg #[.int .i64 c.kind,.int .i64 o1,.int .i64 k1,.int .i64 v1,.int .i64 x1,.int .i64 y1]) (.agg #[.int .i64 c.kind,.int .i64 c.op,.int .i64 c.k,.int .i64 c.v,.int .i64 c.x,.int .i64 c.y])).run Tryz.prog w'=.ok (.bool false) w':=fun w'=>by rw [Z6,hsm]
    have HPB:Hid (Md.plainBad c=false):=hpb
    clear hsm hpb
    go_wp2_with fail
    go_region_held3 (fun w'=>w'.cell? ⟨w.heap.size,0,none⟩=some (.int .i64 c.kind)/\w'.cell? ⟨w.heap.size,1,none⟩=some (.int .i64 c.op)/\w'.cell? ⟨w.heap.size,2,none⟩=some (.slice ta c.terms.length tc)/\w'.cell? ⟨w.heap.size,3,none⟩=some (.int .i64 c.k)/\w'.cell? ⟨w.heap.size,4,none⟩=some (.int .i64 c.v)/\w'.cell? ⟨w.heap.size,5,none⟩=some (.int .i64 c.x)/\w'.cell? ⟨w.heap.size,6,none⟩=some (.int .i64 c.y)/\w'.cell? ⟨w.heap.size,7,none⟩=some (.slice xa c.xs.length xc)/\w'.cell? ⟨w.heap.size,8,none⟩=some (.slice ba c.table.length bc)/\w'.cell? ⟨w.heap.size,9,none⟩=some (.slice ra c.rows.length rc)/\w'.cell? ⟨M,0,none⟩=some (.func (.func o) #[] #[])/\w'.cell? ⟨M,1,none⟩=some (.bool true)/\w'.cell? ⟨M,2,none⟩=some (.int .i64 (m0:Int))/\w'.cell? ⟨M,3,none⟩=some (.int .i64 (m1:Int))/\w'.cell? ⟨M,4,none⟩=some (.int .i64 (m2:Int))/\w'.cell? ⟨M,5,none⟩=some (.int .i64 (m3:Int))/\w'.cell? ⟨M,6,none⟩=some (.func (.func h) #[] #[])/\w.heap.size<w'.heap.size/\M<w'.heap.size/\CnAt w' c (.slice ta c.terms.length tc) (.slice xa c.xs.length xc) (.slice ba c.table.length bc) (.slice ra c.rows.length rc)/\Below V.heap.size V w')
     (first | exact HCf.out.next (Below.refl _ _).drew | exact Cf.next (by assumption) (by assumption))
     (first
      | (go_at_fn o;refine cZ (HO.out _ (Cf.cn (by assumption))) ?_;rintro e w' ⟨rfl,hb⟩)
      | (go_at_call 51;refine cZ (H96.out _ (Cf.cn (by assumption))) ?_;rintro e w' ⟨rfl,hb⟩)
      | (go_at_call 59;refine cZ (H97.out _ (Cf.cn (by assumption))) ?_;rintro e w' ⟨rfl,hb⟩))
    rename_i hHeld
    have hS:Cf V w.heap.size M c ta tc xa xc ba bc ra rc o h true m0 m1 m2 m3 _:=hHeld
    obtain ⟨a0,a1,a2,a3,a4,a5,a6,a7,a8,a9,b0,b1,b2,b3,b4,b5,b6,_⟩:=hHeld
    cases hl:Md.listBad c
    ·cases hm:Md.manyBad c
     ·cases hp:Md.placesB c n
      ·have hres:Hid (Md.fault c n=44):=by show _=_;simp [Md.fault,hkb'.out,HPB.out,hl,hm,hp]
       go_wp2_with (first | (go_at_call 60;refine cZ (H98.out _ (Cf.cn hS)) ?_;rintro e w8 ⟨rfl,hb8⟩;have hS:=Cf.next hS hb8;obtain ⟨a0,a1,a2,a3,a4,a5,a6,a7,a8,a9,b0,b1,b2,b3,b4,b5,b6,_⟩:=id hS) | (go_at_call 61;refine cZ (H99.out _ (Cf.cn hS)) ?_;rintro e w9 ⟨rfl,hb9⟩;have hS:=Cf.next hS hb9;obtain ⟨a0,a1,a2,a3,a4,a5,a6,a7,a8,a9,b0,b1,b2,b3,b4,b5,b6,_⟩:=id hS) | (go_at_call 62;refine cZ (zC _ c.terms _ (Cf.cn hS).t) ?_;rintro e wa ⟨rfl,hba⟩;have hS:=Cf.next hS hba;obtain ⟨a0,a1,a2,a3,a4,a5,a6,a7,a8,a9,b0,b1,b2,b3,b4,b5,b6,_⟩:=id hS) | (go_at_call 57;refine (ze _ _).mono ?_;rintro e wn ⟨rfl,rfl⟩) | (go_at_call 63;refine (zB _ c.table _ (Cf.cn hS).b).mono ?_;rintro e wn ⟨rfl,rfl⟩) | (go_at_call 64;refine (zK _ c.rows _ (Cf.cn hS).r).mono ?_;rintro e wn ⟨rfl,rfl⟩))
       go_ret
       exact ⟨yB hres.out.symm,HBV.out.trans ((Cf.rest hS).mono HBV.out.size)⟩
      ·cases hco:Md.coefsB c.terms
       ·have hres:Hid (Md.fault c n=45):=by show _=_;simp [Md.fault,hkb'.out,HPB.out,hl,hm,hp,hco]
        go_wp2_with (first | (go_at_call 60;refine cZ (H98.out _ (Cf.cn hS)) ?_;rintro e w8 ⟨rfl,hb8⟩;have hS:=Cf.next hS hb8;obtain ⟨a0,a1,a2,a3,a4,a5,a6,a7,a8,a9,b0,b1,b2,b3,b4,b5,b6,_⟩:=id hS) | (go_at_call 61;refine cZ (H99.out _ (Cf.cn hS)) ?_;rintro e w9 ⟨rfl,hb9⟩;have hS:=Cf.next hS hb9;obtain ⟨a0,a1,a2,a3,a4,a5,a6,a7,a8,a9,b0,b1,b2,b3,b4,b5,b6,_⟩:=id hS) | (go_at_call 62;refine cZ (zC _ c.terms _ (Cf.cn hS).t) ?_;rintro e wa ⟨rfl,hba⟩;have hS:=Cf.next hS hba;obtain ⟨a0,a1,a2,a3,a4,a5,a6,a7,a8,a9,b0,b1,b2,b3,b4,b5,b6,_⟩:=id hS) | (go_at_call 57;refine (ze _ _).mono ?_;rintro e wn ⟨rfl,rfl⟩) | (go_at_call 63;refine (zB _ c.table _ (Cf.cn hS).b).mono ?_;rintro e wn ⟨rfl,rfl⟩) | (go_at_call 64;refine (zK _ c.rows _ (Cf.cn hS).r).mono ?_;rintro e wn ⟨rfl,rfl⟩))
        go_ret
        exact ⟨yB hres.out.symm,HBV.out.trans ((Cf.rest hS).mono HBV.out.size)⟩
       ·cases hnk:Md.numB c.k
        ·have hres:Hid (Md.fault c n=46):=by show _=_;simp [Md.fault,hkb'.out,HPB.out,hl,hm,hp,hco,Md.numsB,hnk]
         go_wp2_with (first | (go_at_call 60;refine cZ (H98.out _ (Cf.cn hS)) ?_;rintro e w8 ⟨rfl,hb8⟩;have hS:=Cf.next hS hb8;obtain ⟨a0,a1,a2,a3,a4,a5,a6,a7,a8,a9,b0,b1,b2,b3,b4,b5,b6,_⟩:=id hS) | (go_at_call 61;refine cZ (H99.out _ (Cf.cn hS)) ?_;rintro e w9 ⟨rfl,hb9⟩;have hS:=Cf.next hS hb9;obtain ⟨a0,a1,a2,a3,a4,a5,a6,a7,a8,a9,b0,b1,b2,b3,b4,b5,b6,_⟩:=id hS) | (go_at_call 62;refine cZ (zC _ c.terms _ (Cf.cn hS).t) ?_;rintro e wa ⟨rfl,hba⟩;have hS:=Cf.next hS hba;obtain ⟨a0,a1,a2,a3,a4,a5,a6,a7,a8,a9,b0,b1,b2,b3,b4,b5,b6,_⟩:=id hS) | (go_at_call 57;refine (ze _ _).mono ?_;rintro e wn ⟨rfl,rfl⟩) | (go_at_call 63;refine (zB _ c.table _ (Cf.cn hS).b).mono ?_;rintro e wn ⟨rfl,rfl⟩) | (go_at_call 64;refine (zK _ c.rows _ (Cf.cn hS).r).mono ?_;rintro e wn ⟨rfl,rfl⟩))
         go_ret
         exact ⟨yB hres.out.symm,HBV.out.trans ((Cf.rest hS).mono HBV.out.size)⟩
        ·cases hnv:Md.numB c.v
         ·have hres:Hid (Md.fault c n=46):=by show _=_;simp [Md.fault,hkb'.out,HPB.out,hl,hm,hp,hco,Md.numsB,hnk,hnv]
          go_wp2_with (first | (go_at_call 60;refine cZ (H98.out _ (Cf.cn hS)) ?_;rintro e w8 ⟨rfl,hb8⟩;have hS:=Cf.next hS hb8;obtain ⟨a0,a1,a2,a3,a4,a5,a6,a7,a8,a9,b0,b1,b2,b3,b4,b5,b6,_⟩:=id hS) | (go_at_call 61;refine cZ (H99.out _ (Cf.cn hS)) ?_;rintro e w9 ⟨rfl,hb9⟩;have hS:=Cf.next hS hb9;obtain ⟨a0,a1,a2,a3,a4,a5,a6,a7,a8,a9,b0,b1,b2,b3,b4,b5,b6,_⟩:=id hS) | (go_at_call 62;refine cZ (zC _ c.terms _ (Cf.cn hS).t) ?_;rintro e wa ⟨rfl,hba⟩;have hS:=Cf.next hS hba;obtain ⟨a0,a1,a2,a3,a4,a5,a6,a7,a8,a9,b0,b1,b2,b3,b4,b5,b6,_⟩:=id hS) | (go_at_call 57;refine (ze _ _).mono ?_;rintro e wn ⟨rfl,rfl⟩) | (go_at_call 63;refine (zB _ c.table _ (Cf.cn hS).b).mono ?_;rintro e wn ⟨rfl,rfl⟩) | (go_at_call 64;refine (zK _ c.rows _ (Cf.cn hS).r).mono ?_;rintro e wn ⟨rfl,rfl⟩))
          go_ret
          exact ⟨yB hres.out.symm,HBV.out.trans ((Cf.rest hS).mono HBV.out.size)⟩
         ·cases hnt:c.table.all Md.numB
          ·have hres:Hid (Md.fault c n=46):=by show _=_;simp [Md.fault,hkb'.out,HPB.out,hl,hm,hp,hco,Md.numsB,hnk,hnv,hnt]
           go_wp2_with (first | (go_at_call 60;refine cZ (H98.out _ (Cf.cn hS)) ?_;rintro e w8 ⟨rfl,hb8⟩;have hS:=Cf.next hS hb8;obtain ⟨a0,a1,a2,a3,a4,a5,a6,a7,a8,a9,b0,b1,b2,b3,b4,b5,b6,_⟩:=id hS) | (go_at_call 61;refine cZ (H99.out _ (Cf.cn hS)) ?_;rintro e w9 ⟨rfl,hb9⟩;have hS:=Cf.next hS hb9;obtain ⟨a0,a1,a2,a3,a4,a5,a6,a7,a8,a9,b0,b1,b2,b3,b4,b5,b6,_⟩:=id hS) | (go_at_call 62;refine cZ (zC _ c.terms _ (Cf.cn hS).t) ?_;rintro e wa ⟨rfl,hba⟩;have hS:=Cf.next hS hba;obtain ⟨a0,a1,a2,a3,a4,a5,a6,a7,a8,a9,b0,b1,b2,b3,b4,b5,b6,_⟩:=id hS) | (go_at_call 57;refine (ze _ _).mono ?_;rintro e wn ⟨rfl,rfl⟩) | (go_at_call 63;refine (zB _ c.table _ (Cf.cn hS).b).mono ?_;rintro e wn ⟨rfl,rfl⟩) | (go_at_call 64;refine (zK _ c.rows _ (Cf.cn hS).r).mono ?_;rintro e wn ⟨rfl,rfl⟩))
           go_ret
           exact ⟨yB hres.out.symm,HBV.out.trans ((Cf.rest hS).mono HBV.out.size)⟩
          ·cases hnr:c.rows.all (fun r=>r.all Md.numB)
           ·have hres:Hid (Md.fault c n=46):=by show _=_;simp [Md.fault,hkb'.out,HPB.out,hl,hm,hp,hco,Md.numsB,hnk,hnv,hnt,hnr]
            go_wp2_with (first | (go_at_call 60;refine cZ (H98.out _ (Cf.cn hS)) ?_;rintro e w8 ⟨rfl,hb8⟩;have hS:=Cf.next hS hb8;obtain ⟨a0,a1,a2,a3,a4,a5,a6,a7,a8,a9,b0,b1,b2,b3,b4,b5,b6,_⟩:=id hS) | (go_at_call 61;refine cZ (H99.out _ (Cf.cn hS)) ?_;rintro e w9 ⟨rfl,hb9⟩;have hS:=Cf.next hS hb9;obtain ⟨a0,a1,a2,a3,a4,a5,a6,a7,a8,a9,b0,b1,b2,b3,b4,b5,b6,_⟩:=id hS) | (go_at_call 62;refine cZ (zC _ c.terms _ (Cf.cn hS).t) ?_;rintro e wa ⟨rfl,hba⟩;have hS:=Cf.next hS hba;obtain ⟨a0,a1,a2,a3,a4,a5,a6,a7,a8,a9,b0,b1,b2,b3,b4,b5,b6,_⟩:=id hS) | (go_at_call 57;refine (ze _ _).mono ?_;rintro e wn ⟨rfl,rfl⟩) | (go_at_call 63;refine (zB _ c.table _ (Cf.cn hS).b).mono ?_;rintro e wn ⟨rfl,rfl⟩) | (go_at_call 64;refine (zK _ c.rows _ (Cf.cn hS).r).mono ?_;rintro e wn ⟨rfl,rfl⟩))
            go_ret
            exact ⟨yB hres.out.symm,HBV.out.trans ((Cf.rest hS).mono HBV.out.size)⟩
           ·have hres:Hid (Md.fault c n=0):=by show _=_;simp [Md.fault,hkb'.out,HPB.out,hl,hm,hp,hco,Md.numsB,hnk,hnv,hnt,hnr]
            go_wp2_with (first | (go_at_call 60;refine cZ (H98.out _ (Cf.cn hS)) ?_;rintro e w8 ⟨rfl,hb8⟩;have hS:=Cf.next hS hb8;obtain ⟨a0,a1,a2,a3,a4,a5,a6,a7,a8,a9,b0,b1,b2,b3,b4,b5,b6,_⟩:=id hS) | (go_at_call 61;refine cZ (H99.out _ (Cf.cn hS)) ?_;rintro e w9 ⟨rfl,hb9⟩;have hS:=Cf.next hS hb9;obtain ⟨a0,a1,a2,a3,a4,a5,a6,a7,a8,a9,b0,b1,b2,b3,b4,b5,b6,_⟩:=id hS) | (go_at_call 62;refine cZ (zC _ c.terms _ (Cf.cn hS).t) ?_;rintro e wa ⟨rfl,hba⟩;have hS:=Cf.next hS hba;obtain ⟨a0,a1,a2,a3,a4,a5,a6,a7,a8,a9,b0,b1,b2,b3,b4,b5,b6,_⟩:=id hS) | (go_at_call 57;refine (ze _ _).mono ?_;rintro e wn ⟨rfl,rfl⟩) | (go_at_call 63;refine (zB _ c.table _ (Cf.cn hS).b).mono ?_;rintro e wn ⟨rfl,rfl⟩) | (go_at_call 64;refine (zK _ c.rows _ (Cf.cn hS).r).mono ?_;rintro e wn ⟨rfl,rfl⟩))
            go_ret
            exact ⟨yB hres.out.symm,HBV.out.trans ((Cf.rest hS).mono HBV.out.size)⟩
     ·have hres:Hid (Md.fault c n=47):=by show _=_;simp [Md.fault,hkb'.out,HPB.out,hl,hm]
      go_wp2_with (first | (go_at_call 60;refine cZ (H98.out _ (Cf.cn hS)) ?_;rintro e w8 ⟨rfl,hb8⟩;have hS:=Cf.next hS hb8;obtain ⟨a0,a1,a2,a3,a4,a5,a6,a7,a8,a9,b0,b1,b2,b3,b4,b5,b6,_⟩:=id hS) | (go_at_call 61;refine cZ (H99.out _ (Cf.cn hS)) ?_;rintro e w9 ⟨rfl,hb9⟩;have hS:=Cf.next hS hb9;obtain ⟨a0,a1,a2,a3,a4,a5,a6,a7,a8,a9,b0,b1,b2,b3,b4,b5,b6,_⟩:=id hS) | (go_at_call 62;refine cZ (zC _ c.terms _ (Cf.cn hS).t) ?_;rintro e wa ⟨rfl,hba⟩;have hS:=Cf.next hS hba;obtain ⟨a0,a1,a2,a3,a4,a5,a6,a7,a8,a9,b0,b1,b2,b3,b4,b5,b6,_⟩:=id hS) | (go_at_call 57;refine (ze _ _).mono ?_;rintro e wn ⟨rfl,rfl⟩) | (go_at_call 63;refine (zB _ c.table _ (Cf.cn hS).b).mono ?_;rintro e wn ⟨rfl,rfl⟩) | (go_at_call 64;refine (zK _ c.rows _ (Cf.cn hS).r).mono ?_;rintro e wn ⟨rfl,rfl⟩))
      go_ret
      exact ⟨yB hres.out.symm,HBV.out.trans ((Cf.rest hS).mono HBV.out.size)⟩
    ·have hres:Hid (Md.fault c n=48):=by show _=_;simp [Md.fault,hkb'.out,HPB.out,hl]
     go_wp2_with (first | (go_at_call 60;refine cZ (H98.out _ (Cf.cn hS)) ?_;rintro e w8 ⟨rfl,hb8⟩;have hS:=Cf.next hS hb8;obtain ⟨a0,a1,a2,a3,a4,a5,a6,a7,a8,a9,b0,b1,b2,b3,b4,b5,b6,_⟩:=id hS) | (go_at_call 61;refine cZ (H99.out _ (Cf.cn hS)) ?_;rintro e w9 ⟨rfl,hb9⟩;have hS:=Cf.next hS hb9;obtain ⟨a0,a1,a2,a3,a4,a5,a6,a7,a8,a9,b0,b1,b2,b3,b4,b5,b6,_⟩:=id hS) | (go_at_call 62;refine cZ (zC _ c.terms _ (Cf.cn hS).t) ?_;rintro e wa ⟨rfl,hba⟩;have hS:=Cf.next hS hba;obtain ⟨a0,a1,a2,a3,a4,a5,a6,a7,a8,a9,b0,b1,b2,b3,b4,b5,b6,_⟩:=id hS) | (go_at_call 57;refine (ze _ _).mono ?_;rintro e wn ⟨rfl,rfl⟩) | (go_at_call 63;refine (zB _ c.table _ (Cf.cn hS).b).mono ?_;rintro e wn ⟨rfl,rfl⟩) | (go_at_call 64;refine (zK _ c.rows _ (Cf.cn hS).r).mono ?_;rintro e wn ⟨rfl,rfl⟩))
     go_ret
     exact ⟨yB hres.out.symm,HBV.out.trans ((Cf.rest hS).mono HBV.out.size)⟩
   ·rw [hpb] at hsm
    have hbin:∀ w',(binOp .neq 122 (.agg #[.int .i64 c.kind,.int .i64 o1,.int .i64 k1,.int .i64 v1,.int .i64 x1,.int .i64 y1]) (.agg #[.int .i64 c.kind,.int .i64 c.op,.int .i64 c.k,.int .i64 c.v,.int .i64 c.x,.int .i64 c.y])).run Tryz.prog w'=.ok (.bool true) w':=fun w'=>by rw [Z6,hsm]
    have HPB:Hid (Md.plainBad c=true):=hpb
    clear hsm hpb
    go_wp2_with fail
    refine wp_region_held_drew (S:=(fun w'=>w'.cell? ⟨w.heap.size,0,none⟩=some (.int .i64 c.kind)/\w'.cell? ⟨w.heap.size,1,none⟩=some (.int .i64 c.op)/\w'.cell? ⟨w.heap.size,2,none⟩=some (.slice ta c.terms.length tc)/\w'.cell? ⟨w.heap.size,3,none⟩=some (.int .i64 c.k)/\w'.cell? ⟨w.heap.size,4,none⟩=some (.int .i64 c.v)/\w'.cell? ⟨w.heap.size,5,none⟩=some (.int .i64 c.x)/\w'.cell? ⟨w.heap.size,6,none⟩=some (.int .i64 c.y)/\w'.cell? ⟨w.heap.size,7,none⟩=some (.slice xa c.xs.length xc)/\w'.cell? ⟨w.heap.size,8,none⟩=some (.slice ba c.table.length bc)/\w'.cell? ⟨w.heap.size,9,none⟩=some (.slice ra c.rows.length rc)/\w'.cell? ⟨M,0,none⟩=some (.func (.func o) #[] #[])/\w'.cell? ⟨M,1,none⟩=some (.bool true)/\w'.cell? ⟨M,2,none⟩=some (.int .i64 (m0:Int))/\w'.cell? ⟨M,3,none⟩=some (.int .i64 (m1:Int))/\w'.cell? ⟨M,4,none⟩=some (.int .i64 (m2:Int))/\w'.cell? ⟨M,5,none⟩=some (.int .i64 (m3:Int))/\w'.cell? ⟨M,6,none⟩=some (.func (.func h) #[] #[])/\w.heap.size<w'.heap.size/\M<w'.heap.size/\CnAt w' c (.slice ta c.terms.length tc) (.slice xa c.xs.length xc) (.slice ba c.table.length bc) (.slice ra c.rows.length rc)/\Below V.heap.size V w')) (by kernel_rfl) (HCf.out.next (Below.refl _ _).drew) (fun hHeld=>?_)
    refine wpAnyH_take (i := 0) (oi := ({ dst := some 31, op := Op.fieldAddr 132 (Operand.tmp 5) 0, type := 0, pos := "right.go:45", after := #[], guard := none } : Oper)) (v := ?_) rfl (by kernel_rfl) (by kernel_rfl) (by kernel_rfl) (fun _ _ _ h => h) (Or.inl ⟨by rfl, ?_⟩) (by assumption) ?_
    rotate_left
    ·(intro w hSw;(try dsimp only at hSw);go_simp;try with_reducible rfl)
    rotate_left
    try simp only [Act.put,qa,qb,qc]
    refine wpAnyH_take (i := 1) (oi := ({ dst := some 32, op := Op.load 123 (Operand.tmp 31), type := 123, pos := "right.go:45", after := #[{ on := 0, ground := Ground.data }], guard := none } : Oper)) (v := ?_) rfl (by kernel_rfl) (by kernel_rfl) (by kernel_rfl) (fun _ _ _ h => h) (Or.inl ⟨by rfl, ?_⟩) (by assumption) ?_
    rotate_left
    ·(intro w hSw;(try dsimp only at hSw);go_simp;try with_reducible rfl)
    rotate_left
    try simp only [Act.put,qa,qb,qc]
    refine wpAnyH_take (i := 2) (oi := ({ dst := some 33, op := Op.load 61 (Operand.tmp 2), type := 61, pos := "right.go:45", after := #[], guard := none } : Oper)) (v := ?_) rfl (by kernel_rfl) (by kernel_rfl) (by kernel_rfl) (fun _ _ _ h => h) (Or.inl ⟨by rfl, ?_⟩) (by assumption) ?_
    rotate_left
    ·(intro w hSw;(try dsimp only at hSw);go_simp;try with_reducible rfl)
    rotate_left
    try simp only [Act.put,qa,qb,qc]
    refine wpAnyH_take (i := 4) (oi := ({ dst := some 35, op := Op.load 61 (Operand.tmp 2), type := 61, pos := "right.go:45", after := #[], guard := none } : Oper)) (v := ?_) rfl (by kernel_rfl) (by kernel_rfl) (by kernel_rfl) (fun _ _ _ h => h) (Or.inl ⟨by rfl, ?_⟩) (by assumption) ?_
    rotate_left
    ·(intro w hSw;(try dsimp only at hSw);go_simp;try with_reducible rfl)
    rotate_left
    try simp only [Act.put,qa,qb,qc]
    refine wpAnyH_ready (rs:=[3]) (by kernel_rfl) (by simp) ?_
    refine AllReadyH.cons (o := ({ dst := some 34, op := Op.call { callee := Callee.value (Operand.tmp 32), args := #[Operand.tmp 33], argTypes := #[61] }, type := 122, pos := "right.go:45", after := #[{ on := 1, ground := Ground.data }, { on := 2, ground := Ground.data }], guard := none } : Oper)) rfl (fun K hK => ?_) AllReadyH.nil
    go_simp
    refine cZ (HO.out _ (Cf.cn (by assumption))) ?_;rintro e w' ⟨rfl,hb⟩
    go_wp2_with fail
    refine hK.out _ _ (Cf.next (by assumption) (by assumption)) (fun hHeld=>?_)
    clear hK K
    try simp only [Act.put,qa,qb,qc]
    refine wpAnyH_ready (rs:=[5]) (by kernel_rfl) (by simp) ?_
    refine AllReadyH.cons (o := ({ dst := some 36, op := Op.call { callee := Callee.value (Operand.func 51), args := #[Operand.tmp 35], argTypes := #[61] }, type := 122, pos := "right.go:45", after := #[{ on := 4, ground := Ground.data }, { on := 3, ground := Ground.chain }], guard := none } : Oper)) rfl (fun K hK => ?_) AllReadyH.nil
    go_simp
    refine cZ (H96.out _ (Cf.cn (by assumption))) ?_;rintro e w' ⟨rfl,hb⟩
    go_wp2_with fail
    refine hK.out _ _ (Cf.next (by assumption) (by assumption)) (fun hHeld=>?_)
    clear hK K
    try simp only [Act.put,qa,qb,qc]
    refine wpAnyH_take (i := 6) (oi := ({ dst := some 37, op := Op.binOp BinOp.neq 122 (Operand.tmp 34) (Operand.tmp 36) 122, type := 4, pos := "right.go:45", after := #[{ on := 3, ground := Ground.data }, { on := 5, ground := Ground.data }], guard := none } : Oper)) (v := ?_) rfl (by kernel_rfl) (by kernel_rfl) (by kernel_rfl) (fun _ _ _ h => h) (Or.inl ⟨by rfl, ?_⟩) (by assumption) ?_
    rotate_left
    ·(intro w hSw;(try dsimp only at hSw);go_simp;try with_reducible rfl)
    rotate_left
    try simp only [Act.put,qa,qb,qc]
    refine wpAnyH_take (i := 7) (oi := ({ dst := some 38, op := Op.move (Operand.tmp 37), type := 4, pos := "right.go:45", after := #[{ on := 6, ground := Ground.data }, { on := 5, ground := Ground.chain }], guard := none } : Oper)) (v := ?_) rfl (by kernel_rfl) (by kernel_rfl) (by kernel_rfl) (fun _ _ _ h => h) (Or.inl ⟨by rfl, ?_⟩) (by assumption) ?_
    rotate_left
    ·(intro w hSw;(try dsimp only at hSw);go_simp;try with_reducible rfl)
    rotate_left
    try simp only [Act.put,qa,qb,qc]
    refine wpAnyH_take (i := 8) (oi := ({ dst := some 39, op := Op.load 61 (Operand.tmp 2), type := 61, pos := "right.go:45", after := #[{ on := 7, ground := Ground.guard }], guard := some (7, false) } : Oper)) (v := undef) rfl (by kernel_rfl) (by kernel_rfl) (by kernel_rfl) (fun _ _ _ h => h) (Or.inr ⟨by rfl, rfl⟩) (by assumption) ?_
    try simp only [Act.put,qa,qb,qc]
    refine wpAnyH_take (i := 9) (oi := ({ dst := some 40, op := Op.fieldAddr 132 (Operand.tmp 5) 2, type := 0, pos := "right.go:45", after := #[{ on := 7, ground := Ground.guard }], guard := some (7, false) } : Oper)) (v := undef) rfl (by kernel_rfl) (by kernel_rfl) (by kernel_rfl) (fun _ _ _ h => h) (Or.inr ⟨by rfl, rfl⟩) (by assumption) ?_
    try simp only [Act.put,qa,qb,qc]
    refine wpAnyH_take (i := 10) (oi := ({ dst := some 41, op := Op.load 129 (Operand.tmp 40), type := 129, pos := "right.go:45", after := #[{ on := 9, ground := Ground.data }, { on := 7, ground := Ground.guard }], guard := some (7, false) } : Oper)) (v := undef) rfl (by kernel_rfl) (by kernel_rfl) (by kernel_rfl) (fun _ _ _ h => h) (Or.inr ⟨by rfl, rfl⟩) (by assumption) ?_
    try simp only [Act.put,qa,qb,qc]
    refine wpAnyH_take (i := 11) (oi := ({ dst := some 42, op := Op.call { callee := Callee.value (Operand.func 59), args := #[Operand.tmp 39, Operand.tmp 41], argTypes := #[61, 129] }, type := 4, pos := "right.go:45", after := #[{ on := 8, ground := Ground.data }, { on := 10, ground := Ground.data }, { on := 7, ground := Ground.chain }, { on := 7, ground := Ground.guard }], guard := some (7, false) } : Oper)) (v := undef) rfl (by kernel_rfl) (by kernel_rfl) (by kernel_rfl) (fun _ _ _ h => h) (Or.inr ⟨by rfl, rfl⟩) (by assumption) ?_
    try simp only [Act.put,qa,qb,qc]
    refine wpAnyH_take (i := 12) (oi := ({ dst := some 43, op := Op.pick (Operand.tmp 38) (Operand.const (Value.bool true)) (Operand.tmp 42), type := 4, pos := "right.go:45", after := #[{ on := 7, ground := Ground.data }, { on := 11, ground := Ground.data }], guard := none } : Oper)) (v := ?_) rfl (by kernel_rfl) (by kernel_rfl) (by kernel_rfl) (fun _ _ _ h => h) (Or.inl ⟨by rfl, ?_⟩) (by assumption) ?_
    rotate_left
    ·(intro w hSw;(try dsimp only at hSw);go_simp;try with_reducible rfl)
    rotate_left
    try simp only [Act.put,qa,qb,qc]
    refine wpAnyH_take (i := 13) (oi := ({ dst := some 30, op := Op.assign (Operand.tmp 43), type := 4, pos := "right.go:45", after := #[{ on := 12, ground := Ground.data }, { on := 11, ground := Ground.chain }], guard := none } : Oper)) (v := ?_) rfl (by kernel_rfl) (by kernel_rfl) (by kernel_rfl) (fun _ _ _ h => h) (Or.inl ⟨by rfl, ?_⟩) (by assumption) ?_
    rotate_left
    ·(intro w hSw;(try dsimp only at hSw);go_simp;try with_reducible rfl)
    rotate_left
    try simp only [Act.put,qa,qb,qc]
    refine wpAnyH_done (by kernel_rfl) ?_ _
    all_goals
     rename_i hHeld
     have hS:Cf V w.heap.size M c ta tc xa xc ba bc ra rc o h true m0 m1 m2 m3 _:=hHeld
     have hres:Hid (Md.fault c n=48):=by show _=_;simp [Md.fault,hkb'.out,HPB.out]
     go_wp2_with fail
     go_ret
     exact ⟨yB hres.out.symm,HBV.out.trans ((Cf.rest hS).mono HBV.out.size)⟩
end Go.Proofs.YthohnmplbjhjaaaGreatDoor

namespace Go.Proofs.YthohnmplbjhjaaaGreatDoor
open Go.RowKit
theorem y0F:KindIs 1 151 150 true 64 0 0 0 where
 of:=y0G
 own:=fun c vt vx vb vr w hk hC=>by
  have h1:=y0H c vt vx vb vr w hC
  have h2:zx c=yz c.kind c.op c.k 0 0 0:=by unfold zx;rw [hk];rfl
  rw [h2];exact h1
 ent:=enters_of Tryz.func151 (by kernel_rfl) rfl
 enh:=enters_of Tryz.func150 (by kernel_rfl) rfl
 op:=rfl
 e0:=rfl
 e1:=rfl
 e2:=rfl
 e3:=rfl
theorem y0I:KindIs 2 153 152 false 0 0 0 0 where
 of:=y0J
 own:=fun c vt vx vb vr w hk hC=>by
  have h1:=y0K c vt vx vb vr w hC
  have h2:zx c=yz c.kind 0 c.k 0 c.x c.y:=by unfold zx;rw [hk];rfl
  rw [h2];exact h1
 ent:=enters_of Tryz.func153 (by kernel_rfl) rfl
 enh:=enters_of Tryz.func152 (by kernel_rfl) rfl
 op:=rfl
 e0:=rfl
 e1:=rfl
 e2:=rfl
 e3:=rfl
theorem y0L:KindIs 3 149 154 false 0 64 0 0 where
 of:=y0M
 own:=fun c vt vx vb vr w hk hC=>by
  have h1:=XO c vt vx vb vr w hC
  have h2:zx c=yz c.kind 0 0 0 0 0:=by unfold zx;rw [hk];rfl
  rw [h2];exact h1
 ent:=enters_of Tryz.func149 (by kernel_rfl) rfl
 enh:=enters_of Tryz.func154 (by kernel_rfl) rfl
 op:=rfl
 e0:=rfl
 e1:=rfl
 e2:=rfl
 e3:=rfl
theorem y0N:KindIs 4 156 155 false 0 0 64 0 where
 of:=y0O
 own:=fun c vt vx vb vr w hk hC=>by
  have h1:=y0P c vt vx vb vr w hC
  have h2:zx c=yz c.kind 0 0 0 c.x c.y:=by unfold zx;rw [hk];rfl
  rw [h2];exact h1
 ent:=enters_of Tryz.func156 (by kernel_rfl) rfl
 enh:=enters_of Tryz.func155 (by kernel_rfl) rfl
 op:=rfl
 e0:=rfl
 e1:=rfl
 e2:=rfl
 e3:=rfl
theorem y0Q:KindIs 5 148 157 false 0 64 0 0 where
 of:=y0R
 own:=fun c vt vx vb vr w hk hC=>by
  have h1:=XP c vt vx vb vr w hC
  have h2:zx c=yz c.kind 0 0 0 0 c.y:=by unfold zx;rw [hk];rfl
  rw [h2];exact h1
 ent:=enters_of Tryz.func148 (by kernel_rfl) rfl
 enh:=enters_of Tryz.func157 (by kernel_rfl) rfl
 op:=rfl
 e0:=rfl
 e1:=rfl
 e2:=rfl
 e3:=rfl
theorem y0S:KindIs 6 148 158 false 0 64 0 0 where
 of:=y0T
 own:=fun c vt vx vb vr w hk hC=>by
  have h1:=XP c vt vx vb vr w hC
  have h2:zx c=yz c.kind 0 0 0 0 c.y:=by unfold zx;rw [hk];rfl
  rw [h2];exact h1
 ent:=enters_of Tryz.func148 (by kernel_rfl) rfl
 enh:=enters_of Tryz.func158 (by kernel_rfl) rfl
 op:=rfl
 e0:=rfl
 e1:=rfl
 e2:=rfl
 e3:=rfl
theorem y0U:KindIs 7 160 159 false 64 0 0 0 where
 of:=y0V
 own:=fun c vt vx vb vr w hk hC=>by
  have h1:=y0W c vt vx vb vr w hC
  have h2:zx c=yz c.kind 0 c.k 0 c.x 0:=by unfold zx;rw [hk];rfl
  rw [h2];exact h1
 ent:=enters_of Tryz.func160 (by kernel_rfl) rfl
 enh:=enters_of Tryz.func159 (by kernel_rfl) rfl
 op:=rfl
 e0:=rfl
 e1:=rfl
 e2:=rfl
 e3:=rfl
theorem y0X:KindIs 8 149 161 false 0 8 0 64 where
 of:=y0Y
 own:=fun c vt vx vb vr w hk hC=>by
  have h1:=XO c vt vx vb vr w hC
  have h2:zx c=yz c.kind 0 0 0 0 0:=by unfold zx;rw [hk];rfl
  rw [h2];exact h1
 ent:=enters_of Tryz.func149 (by kernel_rfl) rfl
 enh:=enters_of Tryz.func161 (by kernel_rfl) rfl
 op:=rfl
 e0:=rfl
 e1:=rfl
 e2:=rfl
 e3:=rfl
theorem y0Z:KindIs 9 163 162 true 0 64 0 0 where
 of:=y10
 own:=fun c vt vx vb vr w hk hC=>by
  have h1:=y11 c vt vx vb vr w hC
  have h2:zx c=yz c.kind c.op c.k c.v 0 0:=by unfold zx;rw [hk];rfl
  rw [h2];exact h1
 ent:=enters_of Tryz.func163 (by kernel_rfl) rfl
 enh:=enters_of Tryz.func162 (by kernel_rfl) rfl
 op:=rfl
 e0:=rfl
 e1:=rfl
 e2:=rfl
 e3:=rfl
set_option maxRecDepth 10000 in
set_option maxHeartbeats 1000000 in
theorem y12 (c:Md.Cn) (vt vx vb vr:Value) (n:Int) (w:World) (hC:CnAt w c vt vx vb vr) (hk:c.kind<1∨9<c.kind) :
  Calls Tryz.prog 34 #[yv c vt vx vb vr,.int .i64 n] w fun e w'=>e=.returned (.int .i64 (Md.fault c n))/\Below w.heap.size w w':=by
 obtain ⟨ta,tc,rfl,_⟩:=id hC.t
 obtain ⟨xa,xc,rfl,_⟩:=id hC.x
 obtain ⟨ba,bc,rfl,_⟩:=id hC.b
 obtain ⟨ra,rc,rfl,_⟩:=id hC.r
 have hres:Hid (Md.fault c n=43):=by
  have:Md.kindBad c.kind c.op=true:=by simp [Md.kindBad,hk]
  show _=_
  simp [Md.fault,this]
 have HK:Hid (∀ w,Calls Tryz.prog 58 #[.int .i64 c.kind] w fun e w'=>e=.returned (.tuple #[.agg #[.nilFunc,.bool false,.int .i64 0,.int .i64 0,.int .i64 0,.int .i64 0,.nilFunc],.bool false])/\Below w.heap.size w w'):=fun w=>y13 c.kind w hk
 clear hC hk
 unfold yv
 go_enter Tryz.func34,Tryz.ntmps34
 go_wp2_with fail
 refine (HK.out _).mono ?_
 rintro e w1 ⟨rfl,hb1⟩
 have hbw:Hid (Below w.heap.size w w1):=((Below.refl _ _).alloc (Nat.le_refl _) _).trans (hb1.mono (by simp))
 clear hb1
 go_wp2_with fail
 go_ret
 exact ⟨yB hres.out.symm,hbw.out.alloc hbw.out.size _⟩
theorem y14 (c:Md.Cn) (vt vx vb vr:Value) (n:Int) (w:World) (hC:CnAt w c vt vx vb vr) :
  Calls Tryz.prog 34 #[yv c vt vx vb vr,.int .i64 n] w fun e w'=>e=.returned (.int .i64 (Md.fault c n))/\Below w.heap.size w w':=by
 by_cases hk:c.kind<1∨9<c.kind
 ·exact y12 c vt vx vb vr n w hC hk
 ·have h19:1<=c.kind/\c.kind<=9:=by omega
  rcases (show c.kind=1∨c.kind=2∨c.kind=3∨c.kind=4∨c.kind=5∨c.kind=6∨c.kind=7∨c.kind=8∨c.kind=9 by omega) with h | h | h | h | h | h | h | h | h
  ·exact xJ c vt vx vb vr n w (by rw [h];exact y0F) hC h19
  ·exact xJ c vt vx vb vr n w (by rw [h];exact y0I) hC h19
  ·exact xJ c vt vx vb vr n w (by rw [h];exact y0L) hC h19
  ·exact xJ c vt vx vb vr n w (by rw [h];exact y0N) hC h19
  ·exact xJ c vt vx vb vr n w (by rw [h];exact y0Q) hC h19
  ·exact xJ c vt vx vb vr n w (by rw [h];exact y0S) hC h19
  ·exact xJ c vt vx vb vr n w (by rw [h];exact y0U) hC h19
  ·exact xJ c vt vx vb vr n w (by rw [h];exact y0X) hC h19
  ·exact xJ c vt vx vb vr n w (by rw [h];exact y0Z) hC h19
end Go.Proofs.YthohnmplbjhjaaaGreatDoor
