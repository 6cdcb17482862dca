/-
  Put together: MdFault, MdBits, MdCount, MdCountC, MdFaultAny, MdFew.
-/
import Derived.Test.YtjgghimjnbjlbaaGreatDoorJ05
import Derived.Test.YtjgghimjnbjlbaaGreatDoorJ16
import Derived.Deep.RegionHeld3
import Derived.Laws.StructEq
import Derived.Shelf.Abstract
import Derived.Test.YtjgghimjnbjlbaaGreatDoorJ04
namespace Go.Proofs.YtjgghimjnbjlbaaGreatDoor
open Go.RowKit
set_option maxRecDepth 10000
set_option maxHeartbeats 8000000
theorem y3n : (Tryz.prog.fieldsOf 162).toList.map (fun f => (f.name, f.type, f.offset)) = [("kind", 3, 0), ("op", 3, 1), ("k", 3, 2), ("v", 3, 3), ("x", 3, 4), ("y", 3, 5)] := by kernel_rfl
theorem y3o:Tryz.prog.underlying 3=some (.int .i64):=by kernel_rfl
theorem QK (a1 a2 a3 a4 a5 a6:Value) (w:World):(part 3 #[a1,a2,a3,a4,a5,a6] 0).run Tryz.prog w=.ok a1 w/\(part 3 #[a1,a2,a3,a4,a5,a6] 1).run Tryz.prog w=.ok a2 w/\(part 3 #[a1,a2,a3,a4,a5,a6] 2).run Tryz.prog w=.ok a3 w /\
    (part 3 #[a1,a2,a3,a4,a5,a6] 3).run Tryz.prog w=.ok a4 w/\(part 3 #[a1,a2,a3,a4,a5,a6] 4).run Tryz.prog w=.ok a5 w/\(part 3 #[a1,a2,a3,a4,a5,a6] 5).run Tryz.prog w=.ok a6 w:=
  ⟨by kernel_rfl,by kernel_rfl,by kernel_rfl,by kernel_rfl,by kernel_rfl,by kernel_rfl⟩
theorem YH (a1 a2 a3 a4 a5 a6 b1 b2 b3 b4 b5 b6:Int) (w:World) :
    (binOp .neq 162 (.agg #[.int .i64 a1,.int .i64 a2,.int .i64 a3,.int .i64 a4,.int .i64 a5,.int .i64 a6]) (.agg #[.int .i64 b1,.int .i64 b2,.int .i64 b3,.int .i64 b4,.int .i64 b5,.int .i64 b6])).run Tryz.prog w
      = .ok (.bool (!(a1==b1&&a2==b2&&a3==b3&&a4==b4&&a5==b5&&a6==b6))) w:=by
  rw [run_neq_struct,run_equalIn_struct (d:=9999) (ht:=by kernel_rfl) (hp:=by kernel_rfl)];have hf:=y3n;generalize (Tryz.prog.fieldsOf 162).toList=l at *
  simp only [List.map_eq_cons_iff,List.map_eq_nil_iff,Prod.mk.injEq] at hf;obtain ⟨f1,l1,rfl,⟨n1,t1,o1⟩,f2,l2,rfl,⟨n2,t2,o2⟩,f3,l3,rfl,⟨n3,t3,o3⟩,f4,l4,rfl,⟨n4,t4,o4⟩,f5,l5,rfl,⟨n5,t5,o5⟩,f6,l6,rfl,⟨n6,t6,o6⟩,rfl⟩:=hf;have pa:=QK (.int .i64 a1) (.int .i64 a2) (.int .i64 a3) (.int .i64 a4) (.int .i64 a5) (.int .i64 a6) w;have pb:=QK (.int .i64 b1) (.int .i64 b2) (.int .i64 b3) (.int .i64 b4) (.int .i64 b5) (.int .i64 b6) w;have eq:=fun a b=>run_equalIn_int (P:=Tryz.prog) w 9998 3 .i64 .i64 a b y3o
  simp only [Op.eqFields,n1,n2,n3,n4,n5,n6,t1,t2,t3,t4,t5,t6,o1,o2,o3,o4,o5,o6,Sem.run_bind,pa,pb,eq,Result.andThen_ok,Sem.run_ite,Sem.run_pure]
  cases a1==b1 <;> cases a2==b2 <;> cases a3==b3 <;> cases a4==b4 <;> cases a5==b5 <;> cases a6==b6 <;> simp [Result.andThen]
theorem QL {c:Md.Cn} {o1 k1 v1 x1 y1:Int} (h:yq c.kind o1 k1 v1 x1 y1=yq c.kind (if Md.fOp c.kind then c.op else 0) (if Md.fK c.kind then c.k else 0) (if Md.fV c.kind then c.v else 0) (if Md.fX c.kind then c.x else 0) (if Md.fY c.kind then c.y else 0)) :
    (!(c.kind==c.kind&&o1==c.op&&k1==c.k&&v1==c.v&&x1==c.x&&y1==c.y))=Md.plainBad c:=by
  simp only [yq,Value.agg.injEq,Array.mk.injEq,List.cons.injEq,Value.int.injEq,and_true,true_and] at h;obtain ⟨rfl,rfl,rfl,rfl,rfl⟩:=h;unfold Md.plainBad
  cases Md.fOp c.kind <;> cases Md.fK c.kind <;> cases Md.fV c.kind <;> cases Md.fX c.kind <;> cases Md.fY c.kind <;> simp [bne,Bool.beq_eq_decide_eq,eq_comm]
def yZ (c:Md.Cn):Value:=yq c.kind (if Md.fOp c.kind then c.op else 0) (if Md.fK c.kind then c.k else 0) (if Md.fV c.kind then c.v else 0) (if Md.fX c.kind then c.x else 0) (if Md.fY c.kind then c.y else 0)
structure KindIs (k:Int) (o h:Nat) (b:Bool) (m0 m1 m2 m3:Nat):Prop where
  of:∀ w,Calls Tryz.prog 61 #[.int .i64 k] w fun e w'=>e=.returned (.tuple #[yD o h b m0 m1 m2 m3,.bool true])/\Below w.heap.size w w'
  own:∀ (c:Md.Cn) vt vx vb vr w,c.kind=k->CnAt w c vt vx vb vr->Calls Tryz.prog o #[yh c vt vx vb vr] w fun e w'=>e=.returned (yZ c)/\Below w.heap.size w w'
  ent:Enters Tryz.prog o
  enh:Enters Tryz.prog h
  op:Md.fOp k=b
  e0:m0=if Md.fTerms k then 64 else 0
  e1:m1=if Md.fXs k then Md.mostXs k else 0
  e2:m2=if Md.fTable k then 64 else 0
  e3:m3=if Md.fRows k then 64 else 0
theorem y3p {c:Md.Cn} {o h:Nat} {b:Bool} {m0 m1 m2 m3:Nat} (H:KindIs c.kind o h b m0 m1 m2 m3):(othQ c.terms.length m0||othQ c.xs.length m1||othQ c.table.length m2||othQ c.rows.length m3)=Md.listBad c:=by
  rw [H.e0,H.e1,H.e2,H.e3];unfold othQ Md.listBad
  have hm:Md.mostXs c.kind≠0:=by unfold Md.mostXs;split <;> omega
  have hm':(Md.mostXs c.kind==0)=false:=by simpa using hm
  cases Md.fTerms c.kind <;> cases Md.fXs c.kind <;> cases Md.fTable c.kind <;> cases Md.fRows c.kind <;> simp [hm']
theorem y3q {c:Md.Cn} {o h:Nat} {b:Bool} {m0 m1 m2 m3:Nat} (H:KindIs c.kind o h b m0 m1 m2 m3):(manQ c.terms.length m0||manQ c.xs.length m1||manQ c.table.length m2||manQ c.rows.length m3||!(c.rows.all fun r=>r.length==c.xs.length))=Md.manyBad c:=by
  rw [H.e0,H.e1,H.e2,H.e3];unfold manQ Md.manyBad
  have hm:0<Md.mostXs c.kind:=by unfold Md.mostXs;split <;> omega
  cases Md.fTerms c.kind <;> cases Md.fXs c.kind <;> cases Md.fTable c.kind <;> cases Md.fRows c.kind <;> simp [hm]
theorem y3r {c:Md.Cn} {n:Int} (h:Md.fOp c.kind=true/\(c.op<1∨3<c.op)):Md.fault c n=43:=by
  have:Md.kindBad c.kind c.op=true:=by simp [Md.kindBad,h.1,h.2]
  simp [Md.fault,this]
theorem y3s {c:Md.Cn} (hk:1<=c.kind/\c.kind<=9) (h:¬ (Md.fOp c.kind=true/\(c.op<1∨3<c.op))):Md.kindBad c.kind c.op=false:=by
  rw [<-Bool.not_eq_true];simp only [Md.kindBad,Bool.or_eq_true,Bool.and_eq_true,decide_eq_true_eq];rintro (h1 | h1)
  · omega
  · exact h h1
def Cf (W:World) (N M:Nat) (c:Md.Cn) (ta:Option Addr) (tc:Nat) (xa:Option Addr) (xc:Nat) (ba:Option Addr) (bc:Nat) (ra:Option Addr) (rc:Nat) (o h:Nat) (b:Bool) (m0 m1 m2 m3:Nat) (w':World):Prop:=w'.cell? ⟨N,0,none⟩=some (.int .i64 c.kind)/\w'.cell? ⟨N,1,none⟩=some (.int .i64 c.op)/\w'.cell? ⟨N,2,none⟩=some (.slice ta c.terms.length tc)/\w'.cell? ⟨N,3,none⟩=some (.int .i64 c.k)/\w'.cell? ⟨N,4,none⟩=some (.int .i64 c.v)/\w'.cell? ⟨N,5,none⟩=some (.int .i64 c.x)/\w'.cell? ⟨N,6,none⟩=some (.int .i64 c.y)/\w'.cell? ⟨N,7,none⟩=some (.slice xa c.xs.length xc)/\w'.cell? ⟨N,8,none⟩=some (.slice ba c.table.length bc)/\w'.cell? ⟨N,9,none⟩=some (.slice ra c.rows.length rc)/\w'.cell? ⟨M,0,none⟩=some (.func (.func o) #[] #[])/\w'.cell? ⟨M,1,none⟩=some (.bool b)/\w'.cell? ⟨M,2,none⟩=some (.int .i64 (m0:Int))/\w'.cell? ⟨M,3,none⟩=some (.int .i64 (m1:Int))/\w'.cell? ⟨M,4,none⟩=some (.int .i64 (m2:Int))/\w'.cell? ⟨M,5,none⟩=some (.int .i64 (m3:Int))/\w'.cell? ⟨M,6,none⟩=some (.func (.func h) #[] #[])/\N<w'.heap.size/\M<w'.heap.size/\CnAt w' c (.slice ta c.terms.length tc) (.slice xa c.xs.length xc) (.slice ba c.table.length bc) (.slice ra c.rows.length rc)/\Below W.heap.size W w'
theorem Cf.next {W:World} {N M:Nat} {c:Md.Cn} {ta:Option Addr} {tc:Nat} {xa:Option Addr} {xc:Nat} {ba:Option Addr} {bc:Nat} {ra:Option Addr} {rc:Nat} {o h:Nat} {b:Bool} {m0 m1 m2 m3:Nat} {w1 w2:World} (H:Cf W N M c ta tc xa xc ba bc ra rc o h b m0 m1 m2 m3 w1) (hb:Below w1.heap.size w1 w2):Cf W N M c ta tc xa xc ba bc ra rc o h b m0 m1 m2 m3 w2:=by
  obtain ⟨a0,a1,a2,a3,a4,a5,a6,a7,a8,a9,b0,b1,b2,b3,b4,b5,b6,hN,hM,hC,hW⟩:=H
  exact ⟨(hb.cell (p:=⟨N,0,none⟩) hN).trans a0,(hb.cell (p:=⟨N,1,none⟩) hN).trans a1,(hb.cell (p:=⟨N,2,none⟩) hN).trans a2,(hb.cell (p:=⟨N,3,none⟩) hN).trans a3,(hb.cell (p:=⟨N,4,none⟩) hN).trans a4,(hb.cell (p:=⟨N,5,none⟩) hN).trans a5,(hb.cell (p:=⟨N,6,none⟩) hN).trans a6,(hb.cell (p:=⟨N,7,none⟩) hN).trans a7,(hb.cell (p:=⟨N,8,none⟩) hN).trans a8,(hb.cell (p:=⟨N,9,none⟩) hN).trans a9,(hb.cell (p:=⟨M,0,none⟩) hM).trans b0,(hb.cell (p:=⟨M,1,none⟩) hM).trans b1,(hb.cell (p:=⟨M,2,none⟩) hM).trans b2,(hb.cell (p:=⟨M,3,none⟩) hM).trans b3,(hb.cell (p:=⟨M,4,none⟩) hM).trans b4,(hb.cell (p:=⟨M,5,none⟩) hM).trans b5,(hb.cell (p:=⟨M,6,none⟩) hM).trans b6,Nat.lt_of_lt_of_le hN hb.size,Nat.lt_of_lt_of_le hM hb.size,hC.below hb,hW.trans (hb.mono hW.size)⟩
theorem Cf.cn {W:World} {N M:Nat} {c:Md.Cn} {ta:Option Addr} {tc:Nat} {xa:Option Addr} {xc:Nat} {ba:Option Addr} {bc:Nat} {ra:Option Addr} {rc:Nat} {o h:Nat} {b:Bool} {m0 m1 m2 m3:Nat} {w1:World} (H:Cf W N M c ta tc xa xc ba bc ra rc o h b m0 m1 m2 m3 w1):CnAt w1 c (.slice ta c.terms.length tc) (.slice xa c.xs.length xc) (.slice ba c.table.length bc) (.slice ra c.rows.length rc):=H.2.2.2.2.2.2.2.2.2.2.2.2.2.2.2.2.2.2.2.1
theorem Cf.rest {W:World} {N M:Nat} {c:Md.Cn} {ta:Option Addr} {tc:Nat} {xa:Option Addr} {xc:Nat} {ba:Option Addr} {bc:Nat} {ra:Option Addr} {rc:Nat} {o h:Nat} {b:Bool} {m0 m1 m2 m3:Nat} {w1:World} (H:Cf W N M c ta tc xa xc ba bc ra rc o h b m0 m1 m2 m3 w1):Below W.heap.size W w1:=H.2.2.2.2.2.2.2.2.2.2.2.2.2.2.2.2.2.2.2.2
theorem xq {o h:Nat} {b:Bool} {m0 m1 m2 m3:Nat} (c:Md.Cn) (vt vx vb vr:Value) (n:Int) (w:World) (HK:KindIs c.kind o h b m0 m1 m2 m3) (hC:CnAt w c vt vx vb vr) (hk:1<=c.kind/\c.kind<=9) :
    Calls Tryz.prog 74 #[yh c vt vx vb vr,.int .i64 n] w fun e w'=>e=.returned (.int .i64 (Md.fault c n))/\Below w.heap.size w w':=by
  obtain ⟨ta,tc,rfl,_⟩:=id hC.t;obtain ⟨xa,xc,rfl,_⟩:=id hC.x;obtain ⟨ba,bc,rfl,_⟩:=id hC.b;obtain ⟨ra,rc,rfl,_⟩:=id hC.r;have HK1:Hid (KindIs c.kind o h b m0 m1 m2 m3):=HK;have HC:Hid (CnAt w c (.slice ta c.terms.length tc) (.slice xa c.xs.length xc) (.slice ba c.table.length bc) (.slice ra c.rows.length rc)):=hC;have HR:Hid (∃ r,Md.fault c n=r):=⟨_,rfl⟩;clear HK hC;have H96:Hid (∀ w',CnAt w' c (.slice ta c.terms.length tc) (.slice xa c.xs.length xc) (.slice ba c.table.length bc) (.slice ra c.rows.length rc)->Calls Tryz.prog 93 #[yh c (.slice ta c.terms.length tc) (.slice xa c.xs.length xc) (.slice ba c.table.length bc) (.slice ra c.rows.length rc)] w' fun e w''=>e=.returned (yq c.kind c.op c.k c.v c.x c.y)/\Below w'.heap.size w' w''):=fun w' h'=>y3t c _ _ _ _ w' h'
  have H97:Hid (∀ w',CnAt w' c (.slice ta c.terms.length tc) (.slice xa c.xs.length xc) (.slice ba c.table.length bc) (.slice ra c.rows.length rc)->Calls Tryz.prog 94 #[yh c (.slice ta c.terms.length tc) (.slice xa c.xs.length xc) (.slice ba c.table.length bc) (.slice ra c.rows.length rc),zv m0 m1 m2 m3] w' fun e w''=>e=.returned (.bool (othQ c.terms.length m0||othQ c.xs.length m1||othQ c.table.length m2||othQ c.rows.length m3))/\Below w'.heap.size w' w''):=fun w' h'=>y3u c _ _ _ _ m0 m1 m2 m3 w' h'
  have H98:Hid (∀ w',CnAt w' c (.slice ta c.terms.length tc) (.slice xa c.xs.length xc) (.slice ba c.table.length bc) (.slice ra c.rows.length rc)->Calls Tryz.prog 95 #[yh c (.slice ta c.terms.length tc) (.slice xa c.xs.length xc) (.slice ba c.table.length bc) (.slice ra c.rows.length rc),zv m0 m1 m2 m3] w' fun e w''=>e=.returned (.bool (!(manQ c.terms.length m0||manQ c.xs.length m1||manQ c.table.length m2||manQ c.rows.length m3||!(c.rows.all fun r=>r.length==c.xs.length))))/\Below w'.heap.size w' w''):=fun w' h'=>y3v c _ _ _ _ m0 m1 m2 m3 w' h'
  have H99:Hid (∀ w',CnAt w' c (.slice ta c.terms.length tc) (.slice xa c.xs.length xc) (.slice ba c.table.length bc) (.slice ra c.rows.length rc)->Calls Tryz.prog 96 #[yh c (.slice ta c.terms.length tc) (.slice xa c.xs.length xc) (.slice ba c.table.length bc) (.slice ra c.rows.length rc),.int .i64 n] w' fun e w''=>e=.returned (.bool (Md.placesB c n))/\Below w'.heap.size w' w''):=fun w' h'=>y3w c _ _ _ _ n w' h'
  have HOB:Hid ((othQ c.terms.length m0||othQ c.xs.length m1||othQ c.table.length m2||othQ c.rows.length m3)=Md.listBad c):=y3p HK1.out;have HMB:Hid ((manQ c.terms.length m0||manQ c.xs.length m1||manQ c.table.length m2||manQ c.rows.length m3||!(c.rows.all fun r=>r.length==c.xs.length))=Md.manyBad c):=y3q HK1.out;rw [HOB.out] at H97;rw [HMB.out] at H98;unfold yh yq at H96;unfold yh zv at H97 H98;unfold yh at H99;unfold yh;go_enter Tryz.func74,Tryz.ntmps74;go_wp2_with fail
  refine (HK1.out.of _).mono ?_;rintro e w1 ⟨rfl,hb1⟩;unfold yD;have hbw:Below w.heap.size w w1:=((Below.refl _ _).alloc (Nat.le_refl _) _).trans (hb1.mono (by simp));have hN:w.heap.size<w1.heap.size:=by have:=hb1.size;simp at this;omega
  have h0:=(hb1.block w.heap.size (by simp)).trans (heap_alloc_new w _);obtain ⟨V,hV⟩:∃ V,w1.alloc (.cells #[.func (.func o) #[] #[],.bool b,.int .i64 (m0:Int),.int .i64 (m1:Int),.int .i64 (m2:Int),.int .i64 (m3:Int),.func (.func h) #[] #[]] 115)=V:=⟨_,rfl⟩;have hbV:Below w1.heap.size w1 V:=by rw [<-hV];exact (Below.refl _ _).alloc (Nat.le_refl _) _
  have h0V:=(hbV.block w.heap.size hN).trans h0;have h1V:V.heap[w1.heap.size]?=some (.cells #[.func (.func o) #[] #[],.bool b,.int .i64 (m0:Int),.int .i64 (m1:Int),.int .i64 (m2:Int),.int .i64 (m3:Int),.func (.func h) #[] #[]] 115):=by rw [<-hV];exact heap_alloc_new w1 _
  have hMV:w1.heap.size<V.heap.size:=(Array.getElem?_eq_some_iff.1 h1V).1;have hCf:Cf V w.heap.size w1.heap.size c ta tc xa xc ba bc ra rc o h b m0 m1 m2 m3 V:=by
    refine ⟨?_,?_,?_,?_,?_,?_,?_,?_,?_,?_,?_,?_,?_,?_,?_,?_,?_,Nat.lt_trans hN hMV,hMV,(HC.out.below hbw).below hbV,Below.refl _ _⟩;all_goals simp [World.cell?,h0V,h1V]
  have HCf:Hid (Cf V w.heap.size w1.heap.size c ta tc xa xc ba bc ra rc o h b m0 m1 m2 m3 V):=hCf;have HBV:Hid (Below w.heap.size w V):=hbw.trans (hbV.mono hbw.size);have HH:Hid (KindIs c.kind o h b m0 m1 m2 m3/\1<=c.kind/\c.kind<=9):=⟨HK1.out,hk⟩;obtain ⟨a0,a1,a2,a3,a4,a5,a6,a7,a8,a9,b0,b1,b2,b3,b4,b5,b6,_,_,_,_⟩:=hCf;clear h0 h0V h1V hMV hbV hb1 HK1 HC hbw hk;obtain ⟨M,hM⟩:∃ M,w1.heap.size=M:=⟨_,rfl⟩;rw [hM] at HCf b0 b1 b2 b3 b4 b5 b6
  by_cases hkb:Md.fOp c.kind=true/\(c.op<1∨3<c.op)
  · have hres:Hid (Md.fault c n=43):=y3r hkb
    obtain ⟨hf,hop⟩:=hkb;have hbt:b=true:=HH.out.1.op.symm.trans hf;subst hbt;clear hf;rcases hop with hop | hop
    · go_wp2_with fail
      go_ret;exact ⟨yi hres.out.symm,HBV.out⟩
    · have hop':¬ c.op<1:=by omega
      go_wp2_with fail
      go_ret;exact ⟨yi hres.out.symm,HBV.out⟩
  · have hkb':Hid (Md.kindBad c.kind c.op=false):=y3s HH.out.2 hkb
    have hop:b=false∨b=true/\1<=c.op/\c.op<=3:=by
      have h1:=HH.out.1.op;rcases Bool.eq_false_or_eq_true b with hb | hb
      · refine .inr ⟨hb,?_⟩
        rw [hb] at h1;have:¬ (c.op<1∨3<c.op):=fun h=>hkb ⟨h1,h⟩
        omega
      · exact .inl hb
    clear hkb;rcases hop with hb | ⟨hb,ho1,ho2⟩
    · subst hb
      obtain ⟨o1,k1,v1,x1,y1,hpv⟩:∃ o1 k1 v1 x1 y1,yq c.kind o1 k1 v1 x1 y1=yZ c:=⟨_,_,_,_,_,rfl⟩;have hsm:=QL hpv;have HO:Hid (∀ w',CnAt w' c (.slice ta c.terms.length tc) (.slice xa c.xs.length xc) (.slice ba c.table.length bc) (.slice ra c.rows.length rc)->Calls Tryz.prog o #[yh c (.slice ta c.terms.length tc) (.slice xa c.xs.length xc) (.slice ba c.table.length bc) (.slice ra c.rows.length rc)] w' fun e w''=>e=.returned (yq c.kind o1 k1 v1 x1 y1)/\Below w'.heap.size w' w''):=fun w' hC'=>by
        rw [hpv];exact HH.out.1.own c _ _ _ _ w' rfl hC'
      clear hpv;unfold yh yq at HO;have he:=HH.out.1.ent;unfold Enters at he
      cases hpb:Md.plainBad c
      · rw [hpb] at hsm
        have hbin:∀ w',(binOp .neq 162 (.agg #[.int .i64 c.kind,.int .i64 o1,.int .i64 k1,.int .i64 v1,.int .i64 x1,.int .i64 y1]) (.agg #[.int .i64 c.kind,.int .i64 c.op,.int .i64 c.k,.int .i64 c.v,.int .i64 c.x,.int .i64 c.y])).run Tryz.prog w'=.ok (.bool false) w':=fun w'=>by rw [YH,hsm]
        have HPB:Hid (Md.plainBad c=false):=hpb;clear hsm hpb;go_wp2_with fail
        go_region_held3 (fun w'=>w'.cell? ⟨w.heap.size,0,none⟩=some (.int .i64 c.kind)/\w'.cell? ⟨w.heap.size,1,none⟩=some (.int .i64 c.op)/\w'.cell? ⟨w.heap.size,2,none⟩=some (.slice ta c.terms.length tc)/\w'.cell? ⟨w.heap.size,3,none⟩=some (.int .i64 c.k)/\w'.cell? ⟨w.heap.size,4,none⟩=some (.int .i64 c.v)/\w'.cell? ⟨w.heap.size,5,none⟩=some (.int .i64 c.x)/\w'.cell? ⟨w.heap.size,6,none⟩=some (.int .i64 c.y)/\w'.cell? ⟨w.heap.size,7,none⟩=some (.slice xa c.xs.length xc)/\w'.cell? ⟨w.heap.size,8,none⟩=some (.slice ba c.table.length bc)/\w'.cell? ⟨w.heap.size,9,none⟩=some (.slice ra c.rows.length rc)/\w'.cell? ⟨M,0,none⟩=some (.func (.func o) #[] #[])/\w'.cell? ⟨M,1,none⟩=some (.bool false)/\w'.cell? ⟨M,2,none⟩=some (.int .i64 (m0:Int))/\w'.cell? ⟨M,3,none⟩=some (.int .i64 (m1:Int))/\w'.cell? ⟨M,4,none⟩=some (.int .i64 (m2:Int))/\w'.cell? ⟨M,5,none⟩=some (.int .i64 (m3:Int))/\w'.cell? ⟨M,6,none⟩=some (.func (.func h) #[] #[])/\w.heap.size<w'.heap.size/\M<w'.heap.size/\CnAt w' c (.slice ta c.terms.length tc) (.slice xa c.xs.length xc) (.slice ba c.table.length bc) (.slice ra c.rows.length rc)/\Below V.heap.size V w')
          (first | exact HCf.out.next (Below.refl _ _).drew | exact Cf.next (by assumption) (by assumption))
          (first
            | (go_at_fn o;refine yo (HO.out _ (Cf.cn (by assumption))) (by with_reducible rfl) (by with_reducible rfl) ?_;rintro e w' ⟨rfl,hb⟩)
            | (go_at_call 93;refine yo (H96.out _ (Cf.cn (by assumption))) (by with_reducible rfl) (by with_reducible rfl) ?_;rintro e w' ⟨rfl,hb⟩)
            | (go_at_call 94;refine yo (H97.out _ (Cf.cn (by assumption))) (by with_reducible rfl) (by with_reducible rfl) ?_;rintro e w' ⟨rfl,hb⟩))
        rename_i hHeld
        have hS:Cf V w.heap.size M c ta tc xa xc ba bc ra rc o h false m0 m1 m2 m3 _:=hHeld;obtain ⟨a0,a1,a2,a3,a4,a5,a6,a7,a8,a9,b0,b1,b2,b3,b4,b5,b6,_⟩:=hHeld
        cases hl:Md.listBad c
        · cases hm:Md.manyBad c
          · cases hp:Md.placesB c n
            · have hres:Hid (Md.fault c n=44):=by show _=_;simp [Md.fault,hkb'.out,HPB.out,hl,hm,hp]
              go_wp2_with (first | (go_at_call 95;refine yo (H98.out _ (Cf.cn hS)) (by with_reducible rfl) (by with_reducible rfl) ?_;rintro e w8 ⟨rfl,hb8⟩;have hS:=Cf.next hS hb8;obtain ⟨a0,a1,a2,a3,a4,a5,a6,a7,a8,a9,b0,b1,b2,b3,b4,b5,b6,_⟩:=id hS) | (go_at_call 96;refine yo (H99.out _ (Cf.cn hS)) (by with_reducible rfl) (by with_reducible rfl) ?_;rintro e w9 ⟨rfl,hb9⟩;have hS:=Cf.next hS hb9;obtain ⟨a0,a1,a2,a3,a4,a5,a6,a7,a8,a9,b0,b1,b2,b3,b4,b5,b6,_⟩:=id hS) | (go_at_call 97;refine yo (zc _ c.terms _ (Cf.cn hS).t) (by with_reducible rfl) (by with_reducible rfl) ?_;rintro e wa ⟨rfl,hba⟩;have hS:=Cf.next hS hba;obtain ⟨a0,a1,a2,a3,a4,a5,a6,a7,a8,a9,b0,b1,b2,b3,b4,b5,b6,_⟩:=id hS) | (go_at_call 63;refine (yK _ _).mono ?_;rintro e wn ⟨rfl,rfl⟩) | (go_at_call 41;refine (yQ _ c.table _ (Cf.cn hS).b).mono ?_;rintro e wn ⟨rfl,rfl⟩) | (go_at_call 98;refine (zi _ c.rows _ (Cf.cn hS).r).mono ?_;rintro e wn ⟨rfl,rfl⟩))
              go_ret;exact ⟨yi hres.out.symm,HBV.out.trans ((Cf.rest hS).mono HBV.out.size)⟩
            · cases hco:Md.coefsB c.terms
              · have hres:Hid (Md.fault c n=45):=by show _=_;simp [Md.fault,hkb'.out,HPB.out,hl,hm,hp,hco]
                go_wp2_with (first | (go_at_call 95;refine yo (H98.out _ (Cf.cn hS)) (by with_reducible rfl) (by with_reducible rfl) ?_;rintro e w8 ⟨rfl,hb8⟩;have hS:=Cf.next hS hb8;obtain ⟨a0,a1,a2,a3,a4,a5,a6,a7,a8,a9,b0,b1,b2,b3,b4,b5,b6,_⟩:=id hS) | (go_at_call 96;refine yo (H99.out _ (Cf.cn hS)) (by with_reducible rfl) (by with_reducible rfl) ?_;rintro e w9 ⟨rfl,hb9⟩;have hS:=Cf.next hS hb9;obtain ⟨a0,a1,a2,a3,a4,a5,a6,a7,a8,a9,b0,b1,b2,b3,b4,b5,b6,_⟩:=id hS) | (go_at_call 97;refine yo (zc _ c.terms _ (Cf.cn hS).t) (by with_reducible rfl) (by with_reducible rfl) ?_;rintro e wa ⟨rfl,hba⟩;have hS:=Cf.next hS hba;obtain ⟨a0,a1,a2,a3,a4,a5,a6,a7,a8,a9,b0,b1,b2,b3,b4,b5,b6,_⟩:=id hS) | (go_at_call 63;refine (yK _ _).mono ?_;rintro e wn ⟨rfl,rfl⟩) | (go_at_call 41;refine (yQ _ c.table _ (Cf.cn hS).b).mono ?_;rintro e wn ⟨rfl,rfl⟩) | (go_at_call 98;refine (zi _ c.rows _ (Cf.cn hS).r).mono ?_;rintro e wn ⟨rfl,rfl⟩))
                go_ret;exact ⟨yi hres.out.symm,HBV.out.trans ((Cf.rest hS).mono HBV.out.size)⟩
              · cases hnk:Md.numB c.k
                · have hres:Hid (Md.fault c n=46):=by show _=_;simp [Md.fault,hkb'.out,HPB.out,hl,hm,hp,hco,Md.numsB,hnk]
                  go_wp2_with (first | (go_at_call 95;refine yo (H98.out _ (Cf.cn hS)) (by with_reducible rfl) (by with_reducible rfl) ?_;rintro e w8 ⟨rfl,hb8⟩;have hS:=Cf.next hS hb8;obtain ⟨a0,a1,a2,a3,a4,a5,a6,a7,a8,a9,b0,b1,b2,b3,b4,b5,b6,_⟩:=id hS) | (go_at_call 96;refine yo (H99.out _ (Cf.cn hS)) (by with_reducible rfl) (by with_reducible rfl) ?_;rintro e w9 ⟨rfl,hb9⟩;have hS:=Cf.next hS hb9;obtain ⟨a0,a1,a2,a3,a4,a5,a6,a7,a8,a9,b0,b1,b2,b3,b4,b5,b6,_⟩:=id hS) | (go_at_call 97;refine yo (zc _ c.terms _ (Cf.cn hS).t) (by with_reducible rfl) (by with_reducible rfl) ?_;rintro e wa ⟨rfl,hba⟩;have hS:=Cf.next hS hba;obtain ⟨a0,a1,a2,a3,a4,a5,a6,a7,a8,a9,b0,b1,b2,b3,b4,b5,b6,_⟩:=id hS) | (go_at_call 63;refine (yK _ _).mono ?_;rintro e wn ⟨rfl,rfl⟩) | (go_at_call 41;refine (yQ _ c.table _ (Cf.cn hS).b).mono ?_;rintro e wn ⟨rfl,rfl⟩) | (go_at_call 98;refine (zi _ c.rows _ (Cf.cn hS).r).mono ?_;rintro e wn ⟨rfl,rfl⟩))
                  go_ret;exact ⟨yi hres.out.symm,HBV.out.trans ((Cf.rest hS).mono HBV.out.size)⟩
                · cases hnv:Md.numB c.v
                  · have hres:Hid (Md.fault c n=46):=by show _=_;simp [Md.fault,hkb'.out,HPB.out,hl,hm,hp,hco,Md.numsB,hnk,hnv]
                    go_wp2_with (first | (go_at_call 95;refine yo (H98.out _ (Cf.cn hS)) (by with_reducible rfl) (by with_reducible rfl) ?_;rintro e w8 ⟨rfl,hb8⟩;have hS:=Cf.next hS hb8;obtain ⟨a0,a1,a2,a3,a4,a5,a6,a7,a8,a9,b0,b1,b2,b3,b4,b5,b6,_⟩:=id hS) | (go_at_call 96;refine yo (H99.out _ (Cf.cn hS)) (by with_reducible rfl) (by with_reducible rfl) ?_;rintro e w9 ⟨rfl,hb9⟩;have hS:=Cf.next hS hb9;obtain ⟨a0,a1,a2,a3,a4,a5,a6,a7,a8,a9,b0,b1,b2,b3,b4,b5,b6,_⟩:=id hS) | (go_at_call 97;refine yo (zc _ c.terms _ (Cf.cn hS).t) (by with_reducible rfl) (by with_reducible rfl) ?_;rintro e wa ⟨rfl,hba⟩;have hS:=Cf.next hS hba;obtain ⟨a0,a1,a2,a3,a4,a5,a6,a7,a8,a9,b0,b1,b2,b3,b4,b5,b6,_⟩:=id hS) | (go_at_call 63;refine (yK _ _).mono ?_;rintro e wn ⟨rfl,rfl⟩) | (go_at_call 41;refine (yQ _ c.table _ (Cf.cn hS).b).mono ?_;rintro e wn ⟨rfl,rfl⟩) | (go_at_call 98;refine (zi _ c.rows _ (Cf.cn hS).r).mono ?_;rintro e wn ⟨rfl,rfl⟩))
                    go_ret;exact ⟨yi hres.out.symm,HBV.out.trans ((Cf.rest hS).mono HBV.out.size)⟩
                  · cases hnt:c.table.all Md.numB
                    · have hres:Hid (Md.fault c n=46):=by show _=_;simp [Md.fault,hkb'.out,HPB.out,hl,hm,hp,hco,Md.numsB,hnk,hnv,hnt]
                      go_wp2_with (first | (go_at_call 95;refine yo (H98.out _ (Cf.cn hS)) (by with_reducible rfl) (by with_reducible rfl) ?_;rintro e w8 ⟨rfl,hb8⟩;have hS:=Cf.next hS hb8;obtain ⟨a0,a1,a2,a3,a4,a5,a6,a7,a8,a9,b0,b1,b2,b3,b4,b5,b6,_⟩:=id hS) | (go_at_call 96;refine yo (H99.out _ (Cf.cn hS)) (by with_reducible rfl) (by with_reducible rfl) ?_;rintro e w9 ⟨rfl,hb9⟩;have hS:=Cf.next hS hb9;obtain ⟨a0,a1,a2,a3,a4,a5,a6,a7,a8,a9,b0,b1,b2,b3,b4,b5,b6,_⟩:=id hS) | (go_at_call 97;refine yo (zc _ c.terms _ (Cf.cn hS).t) (by with_reducible rfl) (by with_reducible rfl) ?_;rintro e wa ⟨rfl,hba⟩;have hS:=Cf.next hS hba;obtain ⟨a0,a1,a2,a3,a4,a5,a6,a7,a8,a9,b0,b1,b2,b3,b4,b5,b6,_⟩:=id hS) | (go_at_call 63;refine (yK _ _).mono ?_;rintro e wn ⟨rfl,rfl⟩) | (go_at_call 41;refine (yQ _ c.table _ (Cf.cn hS).b).mono ?_;rintro e wn ⟨rfl,rfl⟩) | (go_at_call 98;refine (zi _ c.rows _ (Cf.cn hS).r).mono ?_;rintro e wn ⟨rfl,rfl⟩))
                      go_ret;exact ⟨yi hres.out.symm,HBV.out.trans ((Cf.rest hS).mono HBV.out.size)⟩
                    · cases hnr:c.rows.all (fun r=>r.all Md.numB)
                      · have hres:Hid (Md.fault c n=46):=by show _=_;simp [Md.fault,hkb'.out,HPB.out,hl,hm,hp,hco,Md.numsB,hnk,hnv,hnt,hnr]
                        go_wp2_with (first | (go_at_call 95;refine yo (H98.out _ (Cf.cn hS)) (by with_reducible rfl) (by with_reducible rfl) ?_;rintro e w8 ⟨rfl,hb8⟩;have hS:=Cf.next hS hb8;obtain ⟨a0,a1,a2,a3,a4,a5,a6,a7,a8,a9,b0,b1,b2,b3,b4,b5,b6,_⟩:=id hS) | (go_at_call 96;refine yo (H99.out _ (Cf.cn hS)) (by with_reducible rfl) (by with_reducible rfl) ?_;rintro e w9 ⟨rfl,hb9⟩;have hS:=Cf.next hS hb9;obtain ⟨a0,a1,a2,a3,a4,a5,a6,a7,a8,a9,b0,b1,b2,b3,b4,b5,b6,_⟩:=id hS) | (go_at_call 97;refine yo (zc _ c.terms _ (Cf.cn hS).t) (by with_reducible rfl) (by with_reducible rfl) ?_;rintro e wa ⟨rfl,hba⟩;have hS:=Cf.next hS hba;obtain ⟨a0,a1,a2,a3,a4,a5,a6,a7,a8,a9,b0,b1,b2,b3,b4,b5,b6,_⟩:=id hS) | (go_at_call 63;refine (yK _ _).mono ?_;rintro e wn ⟨rfl,rfl⟩) | (go_at_call 41;refine (yQ _ c.table _ (Cf.cn hS).b).mono ?_;rintro e wn ⟨rfl,rfl⟩) | (go_at_call 98;refine (zi _ c.rows _ (Cf.cn hS).r).mono ?_;rintro e wn ⟨rfl,rfl⟩))
                        go_ret;exact ⟨yi hres.out.symm,HBV.out.trans ((Cf.rest hS).mono HBV.out.size)⟩
                      · have hres:Hid (Md.fault c n=0):=by show _=_;simp [Md.fault,hkb'.out,HPB.out,hl,hm,hp,hco,Md.numsB,hnk,hnv,hnt,hnr]
                        go_wp2_with (first | (go_at_call 95;refine yo (H98.out _ (Cf.cn hS)) (by with_reducible rfl) (by with_reducible rfl) ?_;rintro e w8 ⟨rfl,hb8⟩;have hS:=Cf.next hS hb8;obtain ⟨a0,a1,a2,a3,a4,a5,a6,a7,a8,a9,b0,b1,b2,b3,b4,b5,b6,_⟩:=id hS) | (go_at_call 96;refine yo (H99.out _ (Cf.cn hS)) (by with_reducible rfl) (by with_reducible rfl) ?_;rintro e w9 ⟨rfl,hb9⟩;have hS:=Cf.next hS hb9;obtain ⟨a0,a1,a2,a3,a4,a5,a6,a7,a8,a9,b0,b1,b2,b3,b4,b5,b6,_⟩:=id hS) | (go_at_call 97;refine yo (zc _ c.terms _ (Cf.cn hS).t) (by with_reducible rfl) (by with_reducible rfl) ?_;rintro e wa ⟨rfl,hba⟩;have hS:=Cf.next hS hba;obtain ⟨a0,a1,a2,a3,a4,a5,a6,a7,a8,a9,b0,b1,b2,b3,b4,b5,b6,_⟩:=id hS) | (go_at_call 63;refine (yK _ _).mono ?_;rintro e wn ⟨rfl,rfl⟩) | (go_at_call 41;refine (yQ _ c.table _ (Cf.cn hS).b).mono ?_;rintro e wn ⟨rfl,rfl⟩) | (go_at_call 98;refine (zi _ c.rows _ (Cf.cn hS).r).mono ?_;rintro e wn ⟨rfl,rfl⟩))
                        go_ret;exact ⟨yi hres.out.symm,HBV.out.trans ((Cf.rest hS).mono HBV.out.size)⟩
          · have hres:Hid (Md.fault c n=47):=by show _=_;simp [Md.fault,hkb'.out,HPB.out,hl,hm]
            go_wp2_with (first | (go_at_call 95;refine yo (H98.out _ (Cf.cn hS)) (by with_reducible rfl) (by with_reducible rfl) ?_;rintro e w8 ⟨rfl,hb8⟩;have hS:=Cf.next hS hb8;obtain ⟨a0,a1,a2,a3,a4,a5,a6,a7,a8,a9,b0,b1,b2,b3,b4,b5,b6,_⟩:=id hS) | (go_at_call 96;refine yo (H99.out _ (Cf.cn hS)) (by with_reducible rfl) (by with_reducible rfl) ?_;rintro e w9 ⟨rfl,hb9⟩;have hS:=Cf.next hS hb9;obtain ⟨a0,a1,a2,a3,a4,a5,a6,a7,a8,a9,b0,b1,b2,b3,b4,b5,b6,_⟩:=id hS) | (go_at_call 97;refine yo (zc _ c.terms _ (Cf.cn hS).t) (by with_reducible rfl) (by with_reducible rfl) ?_;rintro e wa ⟨rfl,hba⟩;have hS:=Cf.next hS hba;obtain ⟨a0,a1,a2,a3,a4,a5,a6,a7,a8,a9,b0,b1,b2,b3,b4,b5,b6,_⟩:=id hS) | (go_at_call 63;refine (yK _ _).mono ?_;rintro e wn ⟨rfl,rfl⟩) | (go_at_call 41;refine (yQ _ c.table _ (Cf.cn hS).b).mono ?_;rintro e wn ⟨rfl,rfl⟩) | (go_at_call 98;refine (zi _ c.rows _ (Cf.cn hS).r).mono ?_;rintro e wn ⟨rfl,rfl⟩))
            go_ret;exact ⟨yi hres.out.symm,HBV.out.trans ((Cf.rest hS).mono HBV.out.size)⟩
        · have hres:Hid (Md.fault c n=48):=by show _=_;simp [Md.fault,hkb'.out,HPB.out,hl]
          go_wp2_with (first | (go_at_call 95;refine yo (H98.out _ (Cf.cn hS)) (by with_reducible rfl) (by with_reducible rfl) ?_;rintro e w8 ⟨rfl,hb8⟩;have hS:=Cf.next hS hb8;obtain ⟨a0,a1,a2,a3,a4,a5,a6,a7,a8,a9,b0,b1,b2,b3,b4,b5,b6,_⟩:=id hS) | (go_at_call 96;refine yo (H99.out _ (Cf.cn hS)) (by with_reducible rfl) (by with_reducible rfl) ?_;rintro e w9 ⟨rfl,hb9⟩;have hS:=Cf.next hS hb9;obtain ⟨a0,a1,a2,a3,a4,a5,a6,a7,a8,a9,b0,b1,b2,b3,b4,b5,b6,_⟩:=id hS) | (go_at_call 97;refine yo (zc _ c.terms _ (Cf.cn hS).t) (by with_reducible rfl) (by with_reducible rfl) ?_;rintro e wa ⟨rfl,hba⟩;have hS:=Cf.next hS hba;obtain ⟨a0,a1,a2,a3,a4,a5,a6,a7,a8,a9,b0,b1,b2,b3,b4,b5,b6,_⟩:=id hS) | (go_at_call 63;refine (yK _ _).mono ?_;rintro e wn ⟨rfl,rfl⟩) | (go_at_call 41;refine (yQ _ c.table _ (Cf.cn hS).b).mono ?_;rintro e wn ⟨rfl,rfl⟩) | (go_at_call 98;refine (zi _ c.rows _ (Cf.cn hS).r).mono ?_;rintro e wn ⟨rfl,rfl⟩))
          go_ret;exact ⟨yi hres.out.symm,HBV.out.trans ((Cf.rest hS).mono HBV.out.size)⟩
      · rw [hpb] at hsm
        have hbin:∀ w',(binOp .neq 162 (.agg #[.int .i64 c.kind,.int .i64 o1,.int .i64 k1,.int .i64 v1,.int .i64 x1,.int .i64 y1]) (.agg #[.int .i64 c.kind,.int .i64 c.op,.int .i64 c.k,.int .i64 c.v,.int .i64 c.x,.int .i64 c.y])).run Tryz.prog w'=.ok (.bool true) w':=fun w'=>by rw [YH,hsm]
        have HPB:Hid (Md.plainBad c=true):=hpb;clear hsm hpb;go_wp2_with fail
        refine wp_region_held_drew (S:=(fun w'=>w'.cell? ⟨w.heap.size,0,none⟩=some (.int .i64 c.kind)/\w'.cell? ⟨w.heap.size,1,none⟩=some (.int .i64 c.op)/\w'.cell? ⟨w.heap.size,2,none⟩=some (.slice ta c.terms.length tc)/\w'.cell? ⟨w.heap.size,3,none⟩=some (.int .i64 c.k)/\w'.cell? ⟨w.heap.size,4,none⟩=some (.int .i64 c.v)/\w'.cell? ⟨w.heap.size,5,none⟩=some (.int .i64 c.x)/\w'.cell? ⟨w.heap.size,6,none⟩=some (.int .i64 c.y)/\w'.cell? ⟨w.heap.size,7,none⟩=some (.slice xa c.xs.length xc)/\w'.cell? ⟨w.heap.size,8,none⟩=some (.slice ba c.table.length bc)/\w'.cell? ⟨w.heap.size,9,none⟩=some (.slice ra c.rows.length rc)/\w'.cell? ⟨M,0,none⟩=some (.func (.func o) #[] #[])/\w'.cell? ⟨M,1,none⟩=some (.bool false)/\w'.cell? ⟨M,2,none⟩=some (.int .i64 (m0:Int))/\w'.cell? ⟨M,3,none⟩=some (.int .i64 (m1:Int))/\w'.cell? ⟨M,4,none⟩=some (.int .i64 (m2:Int))/\w'.cell? ⟨M,5,none⟩=some (.int .i64 (m3:Int))/\w'.cell? ⟨M,6,none⟩=some (.func (.func h) #[] #[])/\w.heap.size<w'.heap.size/\M<w'.heap.size/\CnAt w' c (.slice ta c.terms.length tc) (.slice xa c.xs.length xc) (.slice ba c.table.length bc) (.slice ra c.rows.length rc)/\Below V.heap.size V w')) (by kernel_rfl) (HCf.out.next (Below.refl _ _).drew) (fun hHeld=>?_)
        refine wpAnyH_take (i := 0) (oi := ({ dst := some 31, op := Op.fieldAddr 115 (Operand.tmp 5) 0, type := 0, pos := "right.go:45", after := #[], guard := none } : Oper)) (v := ?_) rfl (by kernel_rfl) (by kernel_rfl) (by kernel_rfl) (fun _ _ _ h => h) (Or.inl ⟨by rfl, ?_⟩) (by assumption) ?_
        rotate_left
        · (intro w hSw;(try dsimp only at hSw);go_simp;try with_reducible rfl)
        rotate_left
        try simp only [Act.put,List.setIfInBounds_toArray,List.set_cons_zero,List.set_cons_succ]
        refine wpAnyH_take (i := 1) (oi := ({ dst := some 32, op := Op.load 111 (Operand.tmp 31), type := 111, pos := "right.go:45", after := #[{ on := 0, ground := Ground.data }], guard := none } : Oper)) (v := ?_) rfl (by kernel_rfl) (by kernel_rfl) (by kernel_rfl) (fun _ _ _ h => h) (Or.inl ⟨by rfl, ?_⟩) (by assumption) ?_
        rotate_left
        · (intro w hSw;(try dsimp only at hSw);go_simp;try with_reducible rfl)
        rotate_left
        try simp only [Act.put,List.setIfInBounds_toArray,List.set_cons_zero,List.set_cons_succ]
        refine wpAnyH_take (i := 2) (oi := ({ dst := some 33, op := Op.load 51 (Operand.tmp 2), type := 51, pos := "right.go:45", after := #[], guard := none } : Oper)) (v := ?_) rfl (by kernel_rfl) (by kernel_rfl) (by kernel_rfl) (fun _ _ _ h => h) (Or.inl ⟨by rfl, ?_⟩) (by assumption) ?_
        rotate_left
        · (intro w hSw;(try dsimp only at hSw);go_simp;try with_reducible rfl)
        rotate_left
        try simp only [Act.put,List.setIfInBounds_toArray,List.set_cons_zero,List.set_cons_succ]
        refine wpAnyH_take (i := 4) (oi := ({ dst := some 35, op := Op.load 51 (Operand.tmp 2), type := 51, pos := "right.go:45", after := #[], guard := none } : Oper)) (v := ?_) rfl (by kernel_rfl) (by kernel_rfl) (by kernel_rfl) (fun _ _ _ h => h) (Or.inl ⟨by rfl, ?_⟩) (by assumption) ?_
        rotate_left
        · (intro w hSw;(try dsimp only at hSw);go_simp;try with_reducible rfl)
        rotate_left
        try simp only [Act.put,List.setIfInBounds_toArray,List.set_cons_zero,List.set_cons_succ]
        refine wpAnyH_ready (rs:=[3]) (by kernel_rfl) (by simp) ?_
        refine AllReadyH.cons (o := ({ dst := some 34, op := Op.call { callee := Callee.value (Operand.tmp 32), args := #[Operand.tmp 33], argTypes := #[51] }, type := 162, pos := "right.go:45", after := #[{ on := 1, ground := Ground.data }, { on := 2, ground := Ground.data }], guard := none } : Oper)) rfl (fun K hK => ?_) AllReadyH.nil
        go_simp;refine yo (HO.out _ (Cf.cn (by assumption))) (by with_reducible rfl) (by with_reducible rfl) ?_;rintro e w' ⟨rfl,hb⟩;go_wp2_with fail
        refine hK.out _ _ (Cf.next (by assumption) (by assumption)) (fun hHeld=>?_);clear hK K;try simp only [Act.put,List.setIfInBounds_toArray,List.set_cons_zero,List.set_cons_succ]
        refine wpAnyH_ready (rs:=[5]) (by kernel_rfl) (by simp) ?_
        refine AllReadyH.cons (o := ({ dst := some 36, op := Op.call { callee := Callee.value (Operand.func 93), args := #[Operand.tmp 35], argTypes := #[51] }, type := 162, pos := "right.go:45", after := #[{ on := 4, ground := Ground.data }, { on := 3, ground := Ground.chain }], guard := none } : Oper)) rfl (fun K hK => ?_) AllReadyH.nil
        go_simp;refine yo (H96.out _ (Cf.cn (by assumption))) (by with_reducible rfl) (by with_reducible rfl) ?_;rintro e w' ⟨rfl,hb⟩;go_wp2_with fail
        refine hK.out _ _ (Cf.next (by assumption) (by assumption)) (fun hHeld=>?_);clear hK K;try simp only [Act.put,List.setIfInBounds_toArray,List.set_cons_zero,List.set_cons_succ]
        refine wpAnyH_take (i := 6) (oi := ({ dst := some 37, op := Op.binOp BinOp.neq 162 (Operand.tmp 34) (Operand.tmp 36) 162, type := 4, pos := "right.go:45", after := #[{ on := 3, ground := Ground.data }, { on := 5, ground := Ground.data }], guard := none } : Oper)) (v := ?_) rfl (by kernel_rfl) (by kernel_rfl) (by kernel_rfl) (fun _ _ _ h => h) (Or.inl ⟨by rfl, ?_⟩) (by assumption) ?_
        rotate_left
        · (intro w hSw;(try dsimp only at hSw);go_simp;try with_reducible rfl)
        rotate_left
        try simp only [Act.put,List.setIfInBounds_toArray,List.set_cons_zero,List.set_cons_succ]
        refine wpAnyH_take (i := 7) (oi := ({ dst := some 38, op := Op.move (Operand.tmp 37), type := 4, pos := "right.go:45", after := #[{ on := 6, ground := Ground.data }, { on := 5, ground := Ground.chain }], guard := none } : Oper)) (v := ?_) rfl (by kernel_rfl) (by kernel_rfl) (by kernel_rfl) (fun _ _ _ h => h) (Or.inl ⟨by rfl, ?_⟩) (by assumption) ?_
        rotate_left
        · (intro w hSw;(try dsimp only at hSw);go_simp;try with_reducible rfl)
        rotate_left
        try simp only [Act.put,List.setIfInBounds_toArray,List.set_cons_zero,List.set_cons_succ]
        refine wpAnyH_take (i := 8) (oi := ({ dst := some 39, op := Op.load 51 (Operand.tmp 2), type := 51, pos := "right.go:45", after := #[{ on := 7, ground := Ground.guard }], guard := some (7, false) } : Oper)) (v := undef) rfl (by kernel_rfl) (by kernel_rfl) (by kernel_rfl) (fun _ _ _ h => h) (Or.inr ⟨by rfl, rfl⟩) (by assumption) ?_
        try simp only [Act.put,List.setIfInBounds_toArray,List.set_cons_zero,List.set_cons_succ]
        refine wpAnyH_take (i := 9) (oi := ({ dst := some 40, op := Op.fieldAddr 115 (Operand.tmp 5) 2, type := 0, pos := "right.go:45", after := #[{ on := 7, ground := Ground.guard }], guard := some (7, false) } : Oper)) (v := undef) rfl (by kernel_rfl) (by kernel_rfl) (by kernel_rfl) (fun _ _ _ h => h) (Or.inr ⟨by rfl, rfl⟩) (by assumption) ?_
        try simp only [Act.put,List.setIfInBounds_toArray,List.set_cons_zero,List.set_cons_succ]
        refine wpAnyH_take (i := 10) (oi := ({ dst := some 41, op := Op.load 113 (Operand.tmp 40), type := 113, pos := "right.go:45", after := #[{ on := 9, ground := Ground.data }, { on := 7, ground := Ground.guard }], guard := some (7, false) } : Oper)) (v := undef) rfl (by kernel_rfl) (by kernel_rfl) (by kernel_rfl) (fun _ _ _ h => h) (Or.inr ⟨by rfl, rfl⟩) (by assumption) ?_
        try simp only [Act.put,List.setIfInBounds_toArray,List.set_cons_zero,List.set_cons_succ]
        refine wpAnyH_take (i := 11) (oi := ({ dst := some 42, op := Op.call { callee := Callee.value (Operand.func 94), args := #[Operand.tmp 39, Operand.tmp 41], argTypes := #[51, 113] }, type := 4, pos := "right.go:45", after := #[{ on := 8, ground := Ground.data }, { on := 10, ground := Ground.data }, { on := 7, ground := Ground.chain }, { on := 7, ground := Ground.guard }], guard := some (7, false) } : Oper)) (v := undef) rfl (by kernel_rfl) (by kernel_rfl) (by kernel_rfl) (fun _ _ _ h => h) (Or.inr ⟨by rfl, rfl⟩) (by assumption) ?_
        try simp only [Act.put,List.setIfInBounds_toArray,List.set_cons_zero,List.set_cons_succ]
        refine wpAnyH_take (i := 12) (oi := ({ dst := some 43, op := Op.pick (Operand.tmp 38) (Operand.const (Value.bool true)) (Operand.tmp 42), type := 4, pos := "right.go:45", after := #[{ on := 7, ground := Ground.data }, { on := 11, ground := Ground.data }], guard := none } : Oper)) (v := ?_) rfl (by kernel_rfl) (by kernel_rfl) (by kernel_rfl) (fun _ _ _ h => h) (Or.inl ⟨by rfl, ?_⟩) (by assumption) ?_
        rotate_left
        · (intro w hSw;(try dsimp only at hSw);go_simp;try with_reducible rfl)
        rotate_left
        try simp only [Act.put,List.setIfInBounds_toArray,List.set_cons_zero,List.set_cons_succ]
        refine wpAnyH_take (i := 13) (oi := ({ dst := some 30, op := Op.assign (Operand.tmp 43), type := 4, pos := "right.go:45", after := #[{ on := 12, ground := Ground.data }, { on := 11, ground := Ground.chain }], guard := none } : Oper)) (v := ?_) rfl (by kernel_rfl) (by kernel_rfl) (by kernel_rfl) (fun _ _ _ h => h) (Or.inl ⟨by rfl, ?_⟩) (by assumption) ?_
        rotate_left
        · (intro w hSw;(try dsimp only at hSw);go_simp;try with_reducible rfl)
        rotate_left
        try simp only [Act.put,List.setIfInBounds_toArray,List.set_cons_zero,List.set_cons_succ]
        refine wpAnyH_done (by kernel_rfl) ?_ _
        all_goals
          rename_i hHeld
          have hS:Cf V w.heap.size M c ta tc xa xc ba bc ra rc o h false m0 m1 m2 m3 _:=hHeld;have hres:Hid (Md.fault c n=48):=by show _=_;simp [Md.fault,hkb'.out,HPB.out]
          go_wp2_with fail
          go_ret;exact ⟨yi hres.out.symm,HBV.out.trans ((Cf.rest hS).mono HBV.out.size)⟩
    · subst hb
      obtain ⟨o1,k1,v1,x1,y1,hpv⟩:∃ o1 k1 v1 x1 y1,yq c.kind o1 k1 v1 x1 y1=yZ c:=⟨_,_,_,_,_,rfl⟩;have hsm:=QL hpv;have HO:Hid (∀ w',CnAt w' c (.slice ta c.terms.length tc) (.slice xa c.xs.length xc) (.slice ba c.table.length bc) (.slice ra c.rows.length rc)->Calls Tryz.prog o #[yh c (.slice ta c.terms.length tc) (.slice xa c.xs.length xc) (.slice ba c.table.length bc) (.slice ra c.rows.length rc)] w' fun e w''=>e=.returned (yq c.kind o1 k1 v1 x1 y1)/\Below w'.heap.size w' w''):=fun w' hC'=>by
        rw [hpv];exact HH.out.1.own c _ _ _ _ w' rfl hC'
      clear hpv;unfold yh yq at HO;have he:=HH.out.1.ent;unfold Enters at he
      cases hpb:Md.plainBad c
      · rw [hpb] at hsm
        have hbin:∀ w',(binOp .neq 162 (.agg #[.int .i64 c.kind,.int .i64 o1,.int .i64 k1,.int .i64 v1,.int .i64 x1,.int .i64 y1]) (.agg #[.int .i64 c.kind,.int .i64 c.op,.int .i64 c.k,.int .i64 c.v,.int .i64 c.x,.int .i64 c.y])).run Tryz.prog w'=.ok (.bool false) w':=fun w'=>by rw [YH,hsm]
        have HPB:Hid (Md.plainBad c=false):=hpb;clear hsm hpb;go_wp2_with fail
        go_region_held3 (fun w'=>w'.cell? ⟨w.heap.size,0,none⟩=some (.int .i64 c.kind)/\w'.cell? ⟨w.heap.size,1,none⟩=some (.int .i64 c.op)/\w'.cell? ⟨w.heap.size,2,none⟩=some (.slice ta c.terms.length tc)/\w'.cell? ⟨w.heap.size,3,none⟩=some (.int .i64 c.k)/\w'.cell? ⟨w.heap.size,4,none⟩=some (.int .i64 c.v)/\w'.cell? ⟨w.heap.size,5,none⟩=some (.int .i64 c.x)/\w'.cell? ⟨w.heap.size,6,none⟩=some (.int .i64 c.y)/\w'.cell? ⟨w.heap.size,7,none⟩=some (.slice xa c.xs.length xc)/\w'.cell? ⟨w.heap.size,8,none⟩=some (.slice ba c.table.length bc)/\w'.cell? ⟨w.heap.size,9,none⟩=some (.slice ra c.rows.length rc)/\w'.cell? ⟨M,0,none⟩=some (.func (.func o) #[] #[])/\w'.cell? ⟨M,1,none⟩=some (.bool true)/\w'.cell? ⟨M,2,none⟩=some (.int .i64 (m0:Int))/\w'.cell? ⟨M,3,none⟩=some (.int .i64 (m1:Int))/\w'.cell? ⟨M,4,none⟩=some (.int .i64 (m2:Int))/\w'.cell? ⟨M,5,none⟩=some (.int .i64 (m3:Int))/\w'.cell? ⟨M,6,none⟩=some (.func (.func h) #[] #[])/\w.heap.size<w'.heap.size/\M<w'.heap.size/\CnAt w' c (.slice ta c.terms.length tc) (.slice xa c.xs.length xc) (.slice ba c.table.length bc) (.slice ra c.rows.length rc)/\Below V.heap.size V w')
          (first | exact HCf.out.next (Below.refl _ _).drew | exact Cf.next (by assumption) (by assumption))
          (first
            | (go_at_fn o;refine yo (HO.out _ (Cf.cn (by assumption))) (by with_reducible rfl) (by with_reducible rfl) ?_;rintro e w' ⟨rfl,hb⟩)
            | (go_at_call 93;refine yo (H96.out _ (Cf.cn (by assumption))) (by with_reducible rfl) (by with_reducible rfl) ?_;rintro e w' ⟨rfl,hb⟩)
            | (go_at_call 94;refine yo (H97.out _ (Cf.cn (by assumption))) (by with_reducible rfl) (by with_reducible rfl) ?_;rintro e w' ⟨rfl,hb⟩))
        rename_i hHeld
        have hS:Cf V w.heap.size M c ta tc xa xc ba bc ra rc o h true m0 m1 m2 m3 _:=hHeld;obtain ⟨a0,a1,a2,a3,a4,a5,a6,a7,a8,a9,b0,b1,b2,b3,b4,b5,b6,_⟩:=hHeld
        cases hl:Md.listBad c
        · cases hm:Md.manyBad c
          · cases hp:Md.placesB c n
            · have hres:Hid (Md.fault c n=44):=by show _=_;simp [Md.fault,hkb'.out,HPB.out,hl,hm,hp]
              go_wp2_with (first | (go_at_call 95;refine yo (H98.out _ (Cf.cn hS)) (by with_reducible rfl) (by with_reducible rfl) ?_;rintro e w8 ⟨rfl,hb8⟩;have hS:=Cf.next hS hb8;obtain ⟨a0,a1,a2,a3,a4,a5,a6,a7,a8,a9,b0,b1,b2,b3,b4,b5,b6,_⟩:=id hS) | (go_at_call 96;refine yo (H99.out _ (Cf.cn hS)) (by with_reducible rfl) (by with_reducible rfl) ?_;rintro e w9 ⟨rfl,hb9⟩;have hS:=Cf.next hS hb9;obtain ⟨a0,a1,a2,a3,a4,a5,a6,a7,a8,a9,b0,b1,b2,b3,b4,b5,b6,_⟩:=id hS) | (go_at_call 97;refine yo (zc _ c.terms _ (Cf.cn hS).t) (by with_reducible rfl) (by with_reducible rfl) ?_;rintro e wa ⟨rfl,hba⟩;have hS:=Cf.next hS hba;obtain ⟨a0,a1,a2,a3,a4,a5,a6,a7,a8,a9,b0,b1,b2,b3,b4,b5,b6,_⟩:=id hS) | (go_at_call 63;refine (yK _ _).mono ?_;rintro e wn ⟨rfl,rfl⟩) | (go_at_call 41;refine (yQ _ c.table _ (Cf.cn hS).b).mono ?_;rintro e wn ⟨rfl,rfl⟩) | (go_at_call 98;refine (zi _ c.rows _ (Cf.cn hS).r).mono ?_;rintro e wn ⟨rfl,rfl⟩))
              go_ret;exact ⟨yi hres.out.symm,HBV.out.trans ((Cf.rest hS).mono HBV.out.size)⟩
            · cases hco:Md.coefsB c.terms
              · have hres:Hid (Md.fault c n=45):=by show _=_;simp [Md.fault,hkb'.out,HPB.out,hl,hm,hp,hco]
                go_wp2_with (first | (go_at_call 95;refine yo (H98.out _ (Cf.cn hS)) (by with_reducible rfl) (by with_reducible rfl) ?_;rintro e w8 ⟨rfl,hb8⟩;have hS:=Cf.next hS hb8;obtain ⟨a0,a1,a2,a3,a4,a5,a6,a7,a8,a9,b0,b1,b2,b3,b4,b5,b6,_⟩:=id hS) | (go_at_call 96;refine yo (H99.out _ (Cf.cn hS)) (by with_reducible rfl) (by with_reducible rfl) ?_;rintro e w9 ⟨rfl,hb9⟩;have hS:=Cf.next hS hb9;obtain ⟨a0,a1,a2,a3,a4,a5,a6,a7,a8,a9,b0,b1,b2,b3,b4,b5,b6,_⟩:=id hS) | (go_at_call 97;refine yo (zc _ c.terms _ (Cf.cn hS).t) (by with_reducible rfl) (by with_reducible rfl) ?_;rintro e wa ⟨rfl,hba⟩;have hS:=Cf.next hS hba;obtain ⟨a0,a1,a2,a3,a4,a5,a6,a7,a8,a9,b0,b1,b2,b3,b4,b5,b6,_⟩:=id hS) | (go_at_call 63;refine (yK _ _).mono ?_;rintro e wn ⟨rfl,rfl⟩) | (go_at_call 41;refine (yQ _ c.table _ (Cf.cn hS).b).mono ?_;rintro e wn ⟨rfl,rfl⟩) | (go_at_call 98;refine (zi _ c.rows _ (Cf.cn hS).r).mono ?_;rintro e wn ⟨rfl,rfl⟩))
                go_ret;exact ⟨yi hres.out.symm,HBV.out.trans ((Cf.rest hS).mono HBV.out.size)⟩
              · cases hnk:Md.numB c.k
                · have hres:Hid (Md.fault c n=46):=by show _=_;simp [Md.fault,hkb'.out,HPB.out,hl,hm,hp,hco,Md.numsB,hnk]
                  go_wp2_with (first | (go_at_call 95;refine yo (H98.out _ (Cf.cn hS)) (by with_reducible rfl) (by with_reducible rfl) ?_;rintro e w8 ⟨rfl,hb8⟩;have hS:=Cf.next hS hb8;obtain ⟨a0,a1,a2,a3,a4,a5,a6,a7,a8,a9,b0,b1,b2,b3,b4,b5,b6,_⟩:=id hS) | (go_at_call 96;refine yo (H99.out _ (Cf.cn hS)) (by with_reducible rfl) (by with_reducible rfl) ?_;rintro e w9 ⟨rfl,hb9⟩;have hS:=Cf.next hS hb9;obtain ⟨a0,a1,a2,a3,a4,a5,a6,a7,a8,a9,b0,b1,b2,b3,b4,b5,b6,_⟩:=id hS) | (go_at_call 97;refine yo (zc _ c.terms _ (Cf.cn hS).t) (by with_reducible rfl) (by with_reducible rfl) ?_;rintro e wa ⟨rfl,hba⟩;have hS:=Cf.next hS hba;obtain ⟨a0,a1,a2,a3,a4,a5,a6,a7,a8,a9,b0,b1,b2,b3,b4,b5,b6,_⟩:=id hS) | (go_at_call 63;refine (yK _ _).mono ?_;rintro e wn ⟨rfl,rfl⟩) | (go_at_call 41;refine (yQ _ c.table _ (Cf.cn hS).b).mono ?_;rintro e wn ⟨rfl,rfl⟩) | (go_at_call 98;refine (zi _ c.rows _ (Cf.cn hS).r).mono ?_;rintro e wn ⟨rfl,rfl⟩))
                  go_ret;exact ⟨yi hres.out.symm,HBV.out.trans ((Cf.rest hS).mono HBV.out.size)⟩
                · cases hnv:Md.numB c.v
                  · have hres:Hid (Md.fault c n=46):=by show _=_;simp [Md.fault,hkb'.out,HPB.out,hl,hm,hp,hco,Md.numsB,hnk,hnv]
                    go_wp2_with (first | (go_at_call 95;refine yo (H98.out _ (Cf.cn hS)) (by with_reducible rfl) (by with_reducible rfl) ?_;rintro e w8 ⟨rfl,hb8⟩;have hS:=Cf.next hS hb8;obtain ⟨a0,a1,a2,a3,a4,a5,a6,a7,a8,a9,b0,b1,b2,b3,b4,b5,b6,_⟩:=id hS) | (go_at_call 96;refine yo (H99.out _ (Cf.cn hS)) (by with_reducible rfl) (by with_reducible rfl) ?_;rintro e w9 ⟨rfl,hb9⟩;have hS:=Cf.next hS hb9;obtain ⟨a0,a1,a2,a3,a4,a5,a6,a7,a8,a9,b0,b1,b2,b3,b4,b5,b6,_⟩:=id hS) | (go_at_call 97;refine yo (zc _ c.terms _ (Cf.cn hS).t) (by with_reducible rfl) (by with_reducible rfl) ?_;rintro e wa ⟨rfl,hba⟩;have hS:=Cf.next hS hba;obtain ⟨a0,a1,a2,a3,a4,a5,a6,a7,a8,a9,b0,b1,b2,b3,b4,b5,b6,_⟩:=id hS) | (go_at_call 63;refine (yK _ _).mono ?_;rintro e wn ⟨rfl,rfl⟩) | (go_at_call 41;refine (yQ _ c.table _ (Cf.cn hS).b).mono ?_;rintro e wn ⟨rfl,rfl⟩) | (go_at_call 98;refine (zi _ c.rows _ (Cf.cn hS).r).mono ?_;rintro e wn ⟨rfl,rfl⟩))
                    go_ret;exact ⟨yi hres.out.symm,HBV.out.trans ((Cf.rest hS).mono HBV.out.size)⟩
                  · cases hnt:c.table.all Md.numB
                    · have hres:Hid (Md.fault c n=46):=by show _=_;simp [Md.fault,hkb'.out,HPB.out,hl,hm,hp,hco,Md.numsB,hnk,hnv,hnt]
                      go_wp2_with (first | (go_at_call 95;refine yo (H98.out _ (Cf.cn hS)) (by with_reducible rfl) (by with_reducible rfl) ?_;rintro e w8 ⟨rfl,hb8⟩;have hS:=Cf.next hS hb8;obtain ⟨a0,a1,a2,a3,a4,a5,a6,a7,a8,a9,b0,b1,b2,b3,b4,b5,b6,_⟩:=id hS) | (go_at_call 96;refine yo (H99.out _ (Cf.cn hS)) (by with_reducible rfl) (by with_reducible rfl) ?_;rintro e w9 ⟨rfl,hb9⟩;have hS:=Cf.next hS hb9;obtain ⟨a0,a1,a2,a3,a4,a5,a6,a7,a8,a9,b0,b1,b2,b3,b4,b5,b6,_⟩:=id hS) | (go_at_call 97;refine yo (zc _ c.terms _ (Cf.cn hS).t) (by with_reducible rfl) (by with_reducible rfl) ?_;rintro e wa ⟨rfl,hba⟩;have hS:=Cf.next hS hba;obtain ⟨a0,a1,a2,a3,a4,a5,a6,a7,a8,a9,b0,b1,b2,b3,b4,b5,b6,_⟩:=id hS) | (go_at_call 63;refine (yK _ _).mono ?_;rintro e wn ⟨rfl,rfl⟩) | (go_at_call 41;refine (yQ _ c.table _ (Cf.cn hS).b).mono ?_;rintro e wn ⟨rfl,rfl⟩) | (go_at_call 98;refine (zi _ c.rows _ (Cf.cn hS).r).mono ?_;rintro e wn ⟨rfl,rfl⟩))
                      go_ret;exact ⟨yi hres.out.symm,HBV.out.trans ((Cf.rest hS).mono HBV.out.size)⟩
                    · cases hnr:c.rows.all (fun r=>r.all Md.numB)
                      · have hres:Hid (Md.fault c n=46):=by show _=_;simp [Md.fault,hkb'.out,HPB.out,hl,hm,hp,hco,Md.numsB,hnk,hnv,hnt,hnr]
                        go_wp2_with (first | (go_at_call 95;refine yo (H98.out _ (Cf.cn hS)) (by with_reducible rfl) (by with_reducible rfl) ?_;rintro e w8 ⟨rfl,hb8⟩;have hS:=Cf.next hS hb8;obtain ⟨a0,a1,a2,a3,a4,a5,a6,a7,a8,a9,b0,b1,b2,b3,b4,b5,b6,_⟩:=id hS) | (go_at_call 96;refine yo (H99.out _ (Cf.cn hS)) (by with_reducible rfl) (by with_reducible rfl) ?_;rintro e w9 ⟨rfl,hb9⟩;have hS:=Cf.next hS hb9;obtain ⟨a0,a1,a2,a3,a4,a5,a6,a7,a8,a9,b0,b1,b2,b3,b4,b5,b6,_⟩:=id hS) | (go_at_call 97;refine yo (zc _ c.terms _ (Cf.cn hS).t) (by with_reducible rfl) (by with_reducible rfl) ?_;rintro e wa ⟨rfl,hba⟩;have hS:=Cf.next hS hba;obtain ⟨a0,a1,a2,a3,a4,a5,a6,a7,a8,a9,b0,b1,b2,b3,b4,b5,b6,_⟩:=id hS) | (go_at_call 63;refine (yK _ _).mono ?_;rintro e wn ⟨rfl,rfl⟩) | (go_at_call 41;refine (yQ _ c.table _ (Cf.cn hS).b).mono ?_;rintro e wn ⟨rfl,rfl⟩) | (go_at_call 98;refine (zi _ c.rows _ (Cf.cn hS).r).mono ?_;rintro e wn ⟨rfl,rfl⟩))
                        go_ret;exact ⟨yi hres.out.symm,HBV.out.trans ((Cf.rest hS).mono HBV.out.size)⟩
                      · have hres:Hid (Md.fault c n=0):=by show _=_;simp [Md.fault,hkb'.out,HPB.out,hl,hm,hp,hco,Md.numsB,hnk,hnv,hnt,hnr]
                        go_wp2_with (first | (go_at_call 95;refine yo (H98.out _ (Cf.cn hS)) (by with_reducible rfl) (by with_reducible rfl) ?_;rintro e w8 ⟨rfl,hb8⟩;have hS:=Cf.next hS hb8;obtain ⟨a0,a1,a2,a3,a4,a5,a6,a7,a8,a9,b0,b1,b2,b3,b4,b5,b6,_⟩:=id hS) | (go_at_call 96;refine yo (H99.out _ (Cf.cn hS)) (by with_reducible rfl) (by with_reducible rfl) ?_;rintro e w9 ⟨rfl,hb9⟩;have hS:=Cf.next hS hb9;obtain ⟨a0,a1,a2,a3,a4,a5,a6,a7,a8,a9,b0,b1,b2,b3,b4,b5,b6,_⟩:=id hS) | (go_at_call 97;refine yo (zc _ c.terms _ (Cf.cn hS).t) (by with_reducible rfl) (by with_reducible rfl) ?_;rintro e wa ⟨rfl,hba⟩;have hS:=Cf.next hS hba;obtain ⟨a0,a1,a2,a3,a4,a5,a6,a7,a8,a9,b0,b1,b2,b3,b4,b5,b6,_⟩:=id hS) | (go_at_call 63;refine (yK _ _).mono ?_;rintro e wn ⟨rfl,rfl⟩) | (go_at_call 41;refine (yQ _ c.table _ (Cf.cn hS).b).mono ?_;rintro e wn ⟨rfl,rfl⟩) | (go_at_call 98;refine (zi _ c.rows _ (Cf.cn hS).r).mono ?_;rintro e wn ⟨rfl,rfl⟩))
                        go_ret;exact ⟨yi hres.out.symm,HBV.out.trans ((Cf.rest hS).mono HBV.out.size)⟩
          · have hres:Hid (Md.fault c n=47):=by show _=_;simp [Md.fault,hkb'.out,HPB.out,hl,hm]
            go_wp2_with (first | (go_at_call 95;refine yo (H98.out _ (Cf.cn hS)) (by with_reducible rfl) (by with_reducible rfl) ?_;rintro e w8 ⟨rfl,hb8⟩;have hS:=Cf.next hS hb8;obtain ⟨a0,a1,a2,a3,a4,a5,a6,a7,a8,a9,b0,b1,b2,b3,b4,b5,b6,_⟩:=id hS) | (go_at_call 96;refine yo (H99.out _ (Cf.cn hS)) (by with_reducible rfl) (by with_reducible rfl) ?_;rintro e w9 ⟨rfl,hb9⟩;have hS:=Cf.next hS hb9;obtain ⟨a0,a1,a2,a3,a4,a5,a6,a7,a8,a9,b0,b1,b2,b3,b4,b5,b6,_⟩:=id hS) | (go_at_call 97;refine yo (zc _ c.terms _ (Cf.cn hS).t) (by with_reducible rfl) (by with_reducible rfl) ?_;rintro e wa ⟨rfl,hba⟩;have hS:=Cf.next hS hba;obtain ⟨a0,a1,a2,a3,a4,a5,a6,a7,a8,a9,b0,b1,b2,b3,b4,b5,b6,_⟩:=id hS) | (go_at_call 63;refine (yK _ _).mono ?_;rintro e wn ⟨rfl,rfl⟩) | (go_at_call 41;refine (yQ _ c.table _ (Cf.cn hS).b).mono ?_;rintro e wn ⟨rfl,rfl⟩) | (go_at_call 98;refine (zi _ c.rows _ (Cf.cn hS).r).mono ?_;rintro e wn ⟨rfl,rfl⟩))
            go_ret;exact ⟨yi hres.out.symm,HBV.out.trans ((Cf.rest hS).mono HBV.out.size)⟩
        · have hres:Hid (Md.fault c n=48):=by show _=_;simp [Md.fault,hkb'.out,HPB.out,hl]
          go_wp2_with (first | (go_at_call 95;refine yo (H98.out _ (Cf.cn hS)) (by with_reducible rfl) (by with_reducible rfl) ?_;rintro e w8 ⟨rfl,hb8⟩;have hS:=Cf.next hS hb8;obtain ⟨a0,a1,a2,a3,a4,a5,a6,a7,a8,a9,b0,b1,b2,b3,b4,b5,b6,_⟩:=id hS) | (go_at_call 96;refine yo (H99.out _ (Cf.cn hS)) (by with_reducible rfl) (by with_reducible rfl) ?_;rintro e w9 ⟨rfl,hb9⟩;have hS:=Cf.next hS hb9;obtain ⟨a0,a1,a2,a3,a4,a5,a6,a7,a8,a9,b0,b1,b2,b3,b4,b5,b6,_⟩:=id hS) | (go_at_call 97;refine yo (zc _ c.terms _ (Cf.cn hS).t) (by with_reducible rfl) (by with_reducible rfl) ?_;rintro e wa ⟨rfl,hba⟩;have hS:=Cf.next hS hba;obtain ⟨a0,a1,a2,a3,a4,a5,a6,a7,a8,a9,b0,b1,b2,b3,b4,b5,b6,_⟩:=id hS) | (go_at_call 63;refine (yK _ _).mono ?_;rintro e wn ⟨rfl,rfl⟩) | (go_at_call 41;refine (yQ _ c.table _ (Cf.cn hS).b).mono ?_;rintro e wn ⟨rfl,rfl⟩) | (go_at_call 98;refine (zi _ c.rows _ (Cf.cn hS).r).mono ?_;rintro e wn ⟨rfl,rfl⟩))
          go_ret;exact ⟨yi hres.out.symm,HBV.out.trans ((Cf.rest hS).mono HBV.out.size)⟩
      · rw [hpb] at hsm
        have hbin:∀ w',(binOp .neq 162 (.agg #[.int .i64 c.kind,.int .i64 o1,.int .i64 k1,.int .i64 v1,.int .i64 x1,.int .i64 y1]) (.agg #[.int .i64 c.kind,.int .i64 c.op,.int .i64 c.k,.int .i64 c.v,.int .i64 c.x,.int .i64 c.y])).run Tryz.prog w'=.ok (.bool true) w':=fun w'=>by rw [YH,hsm]
        have HPB:Hid (Md.plainBad c=true):=hpb;clear hsm hpb;go_wp2_with fail
        refine wp_region_held_drew (S:=(fun w'=>w'.cell? ⟨w.heap.size,0,none⟩=some (.int .i64 c.kind)/\w'.cell? ⟨w.heap.size,1,none⟩=some (.int .i64 c.op)/\w'.cell? ⟨w.heap.size,2,none⟩=some (.slice ta c.terms.length tc)/\w'.cell? ⟨w.heap.size,3,none⟩=some (.int .i64 c.k)/\w'.cell? ⟨w.heap.size,4,none⟩=some (.int .i64 c.v)/\w'.cell? ⟨w.heap.size,5,none⟩=some (.int .i64 c.x)/\w'.cell? ⟨w.heap.size,6,none⟩=some (.int .i64 c.y)/\w'.cell? ⟨w.heap.size,7,none⟩=some (.slice xa c.xs.length xc)/\w'.cell? ⟨w.heap.size,8,none⟩=some (.slice ba c.table.length bc)/\w'.cell? ⟨w.heap.size,9,none⟩=some (.slice ra c.rows.length rc)/\w'.cell? ⟨M,0,none⟩=some (.func (.func o) #[] #[])/\w'.cell? ⟨M,1,none⟩=some (.bool true)/\w'.cell? ⟨M,2,none⟩=some (.int .i64 (m0:Int))/\w'.cell? ⟨M,3,none⟩=some (.int .i64 (m1:Int))/\w'.cell? ⟨M,4,none⟩=some (.int .i64 (m2:Int))/\w'.cell? ⟨M,5,none⟩=some (.int .i64 (m3:Int))/\w'.cell? ⟨M,6,none⟩=some (.func (.func h) #[] #[])/\w.heap.size<w'.heap.size/\M<w'.heap.size/\CnAt w' c (.slice ta c.terms.length tc) (.slice xa c.xs.length xc) (.slice ba c.table.length bc) (.slice ra c.rows.length rc)/\Below V.heap.size V w')) (by kernel_rfl) (HCf.out.next (Below.refl _ _).drew) (fun hHeld=>?_)
        refine wpAnyH_take (i := 0) (oi := ({ dst := some 31, op := Op.fieldAddr 115 (Operand.tmp 5) 0, type := 0, pos := "right.go:45", after := #[], guard := none } : Oper)) (v := ?_) rfl (by kernel_rfl) (by kernel_rfl) (by kernel_rfl) (fun _ _ _ h => h) (Or.inl ⟨by rfl, ?_⟩) (by assumption) ?_
        rotate_left
        · (intro w hSw;(try dsimp only at hSw);go_simp;try with_reducible rfl)
        rotate_left
        try simp only [Act.put,List.setIfInBounds_toArray,List.set_cons_zero,List.set_cons_succ]
        refine wpAnyH_take (i := 1) (oi := ({ dst := some 32, op := Op.load 111 (Operand.tmp 31), type := 111, pos := "right.go:45", after := #[{ on := 0, ground := Ground.data }], guard := none } : Oper)) (v := ?_) rfl (by kernel_rfl) (by kernel_rfl) (by kernel_rfl) (fun _ _ _ h => h) (Or.inl ⟨by rfl, ?_⟩) (by assumption) ?_
        rotate_left
        · (intro w hSw;(try dsimp only at hSw);go_simp;try with_reducible rfl)
        rotate_left
        try simp only [Act.put,List.setIfInBounds_toArray,List.set_cons_zero,List.set_cons_succ]
        refine wpAnyH_take (i := 2) (oi := ({ dst := some 33, op := Op.load 51 (Operand.tmp 2), type := 51, pos := "right.go:45", after := #[], guard := none } : Oper)) (v := ?_) rfl (by kernel_rfl) (by kernel_rfl) (by kernel_rfl) (fun _ _ _ h => h) (Or.inl ⟨by rfl, ?_⟩) (by assumption) ?_
        rotate_left
        · (intro w hSw;(try dsimp only at hSw);go_simp;try with_reducible rfl)
        rotate_left
        try simp only [Act.put,List.setIfInBounds_toArray,List.set_cons_zero,List.set_cons_succ]
        refine wpAnyH_take (i := 4) (oi := ({ dst := some 35, op := Op.load 51 (Operand.tmp 2), type := 51, pos := "right.go:45", after := #[], guard := none } : Oper)) (v := ?_) rfl (by kernel_rfl) (by kernel_rfl) (by kernel_rfl) (fun _ _ _ h => h) (Or.inl ⟨by rfl, ?_⟩) (by assumption) ?_
        rotate_left
        · (intro w hSw;(try dsimp only at hSw);go_simp;try with_reducible rfl)
        rotate_left
        try simp only [Act.put,List.setIfInBounds_toArray,List.set_cons_zero,List.set_cons_succ]
        refine wpAnyH_ready (rs:=[3]) (by kernel_rfl) (by simp) ?_
        refine AllReadyH.cons (o := ({ dst := some 34, op := Op.call { callee := Callee.value (Operand.tmp 32), args := #[Operand.tmp 33], argTypes := #[51] }, type := 162, pos := "right.go:45", after := #[{ on := 1, ground := Ground.data }, { on := 2, ground := Ground.data }], guard := none } : Oper)) rfl (fun K hK => ?_) AllReadyH.nil
        go_simp;refine yo (HO.out _ (Cf.cn (by assumption))) (by with_reducible rfl) (by with_reducible rfl) ?_;rintro e w' ⟨rfl,hb⟩;go_wp2_with fail
        refine hK.out _ _ (Cf.next (by assumption) (by assumption)) (fun hHeld=>?_);clear hK K;try simp only [Act.put,List.setIfInBounds_toArray,List.set_cons_zero,List.set_cons_succ]
        refine wpAnyH_ready (rs:=[5]) (by kernel_rfl) (by simp) ?_
        refine AllReadyH.cons (o := ({ dst := some 36, op := Op.call { callee := Callee.value (Operand.func 93), args := #[Operand.tmp 35], argTypes := #[51] }, type := 162, pos := "right.go:45", after := #[{ on := 4, ground := Ground.data }, { on := 3, ground := Ground.chain }], guard := none } : Oper)) rfl (fun K hK => ?_) AllReadyH.nil
        go_simp;refine yo (H96.out _ (Cf.cn (by assumption))) (by with_reducible rfl) (by with_reducible rfl) ?_;rintro e w' ⟨rfl,hb⟩;go_wp2_with fail
        refine hK.out _ _ (Cf.next (by assumption) (by assumption)) (fun hHeld=>?_);clear hK K;try simp only [Act.put,List.setIfInBounds_toArray,List.set_cons_zero,List.set_cons_succ]
        refine wpAnyH_take (i := 6) (oi := ({ dst := some 37, op := Op.binOp BinOp.neq 162 (Operand.tmp 34) (Operand.tmp 36) 162, type := 4, pos := "right.go:45", after := #[{ on := 3, ground := Ground.data }, { on := 5, ground := Ground.data }], guard := none } : Oper)) (v := ?_) rfl (by kernel_rfl) (by kernel_rfl) (by kernel_rfl) (fun _ _ _ h => h) (Or.inl ⟨by rfl, ?_⟩) (by assumption) ?_
        rotate_left
        · (intro w hSw;(try dsimp only at hSw);go_simp;try with_reducible rfl)
        rotate_left
        try simp only [Act.put,List.setIfInBounds_toArray,List.set_cons_zero,List.set_cons_succ]
        refine wpAnyH_take (i := 7) (oi := ({ dst := some 38, op := Op.move (Operand.tmp 37), type := 4, pos := "right.go:45", after := #[{ on := 6, ground := Ground.data }, { on := 5, ground := Ground.chain }], guard := none } : Oper)) (v := ?_) rfl (by kernel_rfl) (by kernel_rfl) (by kernel_rfl) (fun _ _ _ h => h) (Or.inl ⟨by rfl, ?_⟩) (by assumption) ?_
        rotate_left
        · (intro w hSw;(try dsimp only at hSw);go_simp;try with_reducible rfl)
        rotate_left
        try simp only [Act.put,List.setIfInBounds_toArray,List.set_cons_zero,List.set_cons_succ]
        refine wpAnyH_take (i := 8) (oi := ({ dst := some 39, op := Op.load 51 (Operand.tmp 2), type := 51, pos := "right.go:45", after := #[{ on := 7, ground := Ground.guard }], guard := some (7, false) } : Oper)) (v := undef) rfl (by kernel_rfl) (by kernel_rfl) (by kernel_rfl) (fun _ _ _ h => h) (Or.inr ⟨by rfl, rfl⟩) (by assumption) ?_
        try simp only [Act.put,List.setIfInBounds_toArray,List.set_cons_zero,List.set_cons_succ]
        refine wpAnyH_take (i := 9) (oi := ({ dst := some 40, op := Op.fieldAddr 115 (Operand.tmp 5) 2, type := 0, pos := "right.go:45", after := #[{ on := 7, ground := Ground.guard }], guard := some (7, false) } : Oper)) (v := undef) rfl (by kernel_rfl) (by kernel_rfl) (by kernel_rfl) (fun _ _ _ h => h) (Or.inr ⟨by rfl, rfl⟩) (by assumption) ?_
        try simp only [Act.put,List.setIfInBounds_toArray,List.set_cons_zero,List.set_cons_succ]
        refine wpAnyH_take (i := 10) (oi := ({ dst := some 41, op := Op.load 113 (Operand.tmp 40), type := 113, pos := "right.go:45", after := #[{ on := 9, ground := Ground.data }, { on := 7, ground := Ground.guard }], guard := some (7, false) } : Oper)) (v := undef) rfl (by kernel_rfl) (by kernel_rfl) (by kernel_rfl) (fun _ _ _ h => h) (Or.inr ⟨by rfl, rfl⟩) (by assumption) ?_
        try simp only [Act.put,List.setIfInBounds_toArray,List.set_cons_zero,List.set_cons_succ]
        refine wpAnyH_take (i := 11) (oi := ({ dst := some 42, op := Op.call { callee := Callee.value (Operand.func 94), args := #[Operand.tmp 39, Operand.tmp 41], argTypes := #[51, 113] }, type := 4, pos := "right.go:45", after := #[{ on := 8, ground := Ground.data }, { on := 10, ground := Ground.data }, { on := 7, ground := Ground.chain }, { on := 7, ground := Ground.guard }], guard := some (7, false) } : Oper)) (v := undef) rfl (by kernel_rfl) (by kernel_rfl) (by kernel_rfl) (fun _ _ _ h => h) (Or.inr ⟨by rfl, rfl⟩) (by assumption) ?_
        try simp only [Act.put,List.setIfInBounds_toArray,List.set_cons_zero,List.set_cons_succ]
        refine wpAnyH_take (i := 12) (oi := ({ dst := some 43, op := Op.pick (Operand.tmp 38) (Operand.const (Value.bool true)) (Operand.tmp 42), type := 4, pos := "right.go:45", after := #[{ on := 7, ground := Ground.data }, { on := 11, ground := Ground.data }], guard := none } : Oper)) (v := ?_) rfl (by kernel_rfl) (by kernel_rfl) (by kernel_rfl) (fun _ _ _ h => h) (Or.inl ⟨by rfl, ?_⟩) (by assumption) ?_
        rotate_left
        · (intro w hSw;(try dsimp only at hSw);go_simp;try with_reducible rfl)
        rotate_left
        try simp only [Act.put,List.setIfInBounds_toArray,List.set_cons_zero,List.set_cons_succ]
        refine wpAnyH_take (i := 13) (oi := ({ dst := some 30, op := Op.assign (Operand.tmp 43), type := 4, pos := "right.go:45", after := #[{ on := 12, ground := Ground.data }, { on := 11, ground := Ground.chain }], guard := none } : Oper)) (v := ?_) rfl (by kernel_rfl) (by kernel_rfl) (by kernel_rfl) (fun _ _ _ h => h) (Or.inl ⟨by rfl, ?_⟩) (by assumption) ?_
        rotate_left
        · (intro w hSw;(try dsimp only at hSw);go_simp;try with_reducible rfl)
        rotate_left
        try simp only [Act.put,List.setIfInBounds_toArray,List.set_cons_zero,List.set_cons_succ]
        refine wpAnyH_done (by kernel_rfl) ?_ _
        all_goals
          rename_i hHeld
          have hS:Cf V w.heap.size M c ta tc xa xc ba bc ra rc o h true m0 m1 m2 m3 _:=hHeld;have hres:Hid (Md.fault c n=48):=by show _=_;simp [Md.fault,hkb'.out,HPB.out]
          go_wp2_with fail
          go_ret;exact ⟨yi hres.out.symm,HBV.out.trans ((Cf.rest hS).mono HBV.out.size)⟩
end Go.Proofs.YtjgghimjnbjlbaaGreatDoor

namespace Go.Proofs.YtjgghimjnbjlbaaGreatDoor
open Go.RowKit
theorem xG {w:World} {N:Nat} {a0 a1 a2 a3 a4 a5 a6 a7 a8 a9:Value} {t:TypeId} (h:w.heap[N]?=some (.cells #[a0,a1,a2,a3,a4,a5,a6,a7,a8,a9] t (0,0))) :
    (w.cell? ⟨N,0,none⟩=some a0/\w.cell? ⟨N,1,none⟩=some a1/\w.cell? ⟨N,2,none⟩=some a2/\w.cell? ⟨N,3,none⟩=some a3/\w.cell? ⟨N,4,none⟩=some a4/\w.cell? ⟨N,5,none⟩=some a5/\w.cell? ⟨N,6,none⟩=some a6/\w.cell? ⟨N,7,none⟩=some a7/\w.cell? ⟨N,8,none⟩=some a8/\w.cell? ⟨N,9,none⟩=some a9)/\∀ j,w.frozen? ⟨N,j,none⟩=false:=by
  refine ⟨⟨?_,?_,?_,?_,?_,?_,?_,?_,?_,?_⟩,fun j=>?_⟩ <;> simp [World.cell?,World.frozen?,h]
theorem yA {w' w'':World} (hb:Below w'.heap.size w' w'') {a:Addr} {u:Value} (h:w'.cell? a=some u):w''.cell? a=some u:=by
  refine (hb.cell (p:=a) ?_).trans h;rcases Nat.lt_or_ge a.block w'.heap.size with hl | hl
  · exact hl
  · unfold World.cell? at h
    rw [Array.getElem?_eq_none hl] at h
    cases h
end Go.Proofs.YtjgghimjnbjlbaaGreatDoor

namespace Go.Proofs.YtjgghimjnbjlbaaGreatDoor
open Go.RowKit
set_option maxRecDepth 10000
set_option maxHeartbeats 8000000
def CountAt (w:World) (P:Nat) (left:Int):Prop:=w.heap[P]?=some (.cells #[.int .i64 left] 105 (0,0))
theorem CountAt.cell {w:World} {P:Nat} {left:Int} (h:CountAt w P left):w.cell? ⟨P,0,none⟩=some (.int .i64 left)/\w.frozen? ⟨P,0,none⟩=false:=by
  unfold CountAt at h;simp [World.cell?,World.frozen?,h]
theorem CountAt.lt {w:World} {P:Nat} {left:Int} (h:CountAt w P left):P<w.heap.size:=(hLt h)
theorem CountAt.below {w w':World} {P:Nat} {left:Int} (h:CountAt w P left) (hb:Below w.heap.size w w'):CountAt w' P left:=(hb.block P h.lt).trans h
structure Took (P:Nat) (left:Int) (cost:Int) (w w':World):Prop where
  out:∃ left',CountAt w' P left'/\left'<=20000/\-9223372036854775807<=left'/\(0<=left'->left'+cost<=left)
  grown:w.grownBy w' (some P)
def xH (e:Ending):Prop:=∃ b,e=.returned (.bool b)
theorem Yk (w:World) (row:Option Nat):w.grownBy w row:=⟨rfl,rfl,rfl,Nat.le_refl _,fun _ _ _=>rfl⟩
theorem yL {w w1 w2:World} {row:Option Nat} (h:w.grownBy w1 row) (k:w1.grownBy w2 row):w.grownBy w2 row:=
  ⟨k.os.trans h.os,k.tape.trans h.tape,k.output.trans h.output,Nat.le_trans h.size k.size,fun i hi hne=>(k.block i (Nat.lt_of_lt_of_le hi h.size) hne).trans (h.block i hi hne)⟩
theorem QD {w w1:World} {row:Option Nat} (h:Below w.heap.size w w1):w.grownBy w1 row:=⟨h.os,h.tape,h.output,h.size,fun i hi _=>h.block i hi⟩
theorem zT (P:Nat) (left:Int) (w:World) (h:CountAt w P left):Calls Tryz.prog 25 #[.pointer (some ⟨P,0,none⟩)] w fun e w'=>e=.returned (.bool (decide (0<=left)))/\w'=w:=by
  obtain ⟨h1,_⟩:=h.cell;clear h;go_enter Tryz.func25,Tryz.ntmps25;go_wp2;go_ret;exact ⟨rfl,rfl⟩
theorem zP (P:Nat) (left:Int) (n:Nat) (w:World) (h:CountAt w P left) (hl:left<=20000) (hl2:-9223372036854775807<=left) (hn:n<=maxLen):Calls Tryz.prog 55 #[.pointer (some ⟨P,0,none⟩),.int .i64 (n:Int)] w fun e w'=>xH e/\Took P left n w w':=by
  obtain ⟨h1,h2⟩:=h.cell;have hlt:=h.lt;unfold maxLen at hn
  by_cases h0:0<=left
  · have hb:w.heap[P]?=some (.cells #[.int .i64 left] 105 (0,0)):=h
    have HB:Hid (w.heap[P]?=some (.cells #[.int .i64 left] 105 (0,0))):=hb;have hw:wrap64 (left-(n:Int))=left-(n:Int):=by unfold wrap64;omega
    obtain ⟨V,hV⟩:∃ V,w.setCell ⟨P,0,none⟩ (.int .i64 (left-(n:Int)))=V:=⟨_,rfl⟩;have hc:CountAt V P (left-n):=by
      rw [<-hV];unfold CountAt;simp [World.setCell,Array.getElem?_modify,hb]
    have hg:w.grownBy V (some P):=by
      rw [<-hV];exact ⟨rfl,rfl,rfl,by simp [World.setCell],fun k _ hne=>Below.heap_setCell w ⟨P,0,none⟩ _ k (fun e=>hne (by rw [e]))⟩
    obtain ⟨h3,h4⟩:=hc.cell;have HT:Hid (Took P left n w V):=⟨⟨_,hc,by omega,by omega,fun _=>by omega⟩,hg⟩;clear hb h hc hg;go_enter Tryz.func55,Tryz.ntmps55;go_wp2;go_ret;exact ⟨⟨_,rfl⟩,HT.out⟩
  · have HT:Hid (Took P left n w w):=⟨⟨left,h,hl,hl2,fun h=>absurd h h0⟩,Yk _ _⟩
    clear h;go_enter Tryz.func55,Tryz.ntmps55;go_wp2;go_ret;exact ⟨⟨_,rfl⟩,HT.out⟩
theorem QE (P:Nat) (left:Int) (w:World) (h:CountAt w P left) (hl:left<=20000) (hl2:-9223372036854775807<=left):Calls Tryz.prog 55 #[.pointer (some ⟨P,0,none⟩),.int .i64 1] w fun e w'=>xH e/\Took P left 1 w w':=zP P left 1 w h hl hl2 (by decide)
def zh:List (List Int)->Nat
  | []=>0
  | r :: l=>r.length+1+zh l
theorem y3g (a b:List (List Int)):zh (a++b)=zh a+zh b:=by
  induction a with
  | nil=>simp [zh]
  | cons r a ih=>simp only [List.cons_append,zh,ih];omega
theorem y3h {l:List (List Int)} {k:Nat} (h:k<l.length):zh (l.take (k+1))=zh (l.take k)+(l[k].length+1):=by
  rw [List.take_succ_eq_append_getElem h,y3g];simp [zh]
theorem y3i (P:Nat) (left:Int) (v:Value) (l:List (List Int)) (w:World) (h:CountAt w P left) (hl:left<=20000) (hl2:-9223372036854775807<=left) (hv:∀ w',w.grownBy w' (some P)->RowsAt w' v l) :
    Calls Tryz.prog 72 #[.pointer (some ⟨P,0,none⟩),v] w fun e w'=>e=.returned (.tuple #[])/\Took P left (zh l) w w':=by
  have HV:Hid (∀ w',w.grownBy w' (some P)->RowsAt w' v l):=hv;obtain ⟨a,cap,rfl,hm⟩:=(hv w (Yk _ _)).form;unfold maxLen at hm;have H0:Hid (CountAt w P left):=h;clear hv h;go_enter Tryz.func72,Tryz.ntmps72;go_wp2_with fail
  go_loopw [4] (fun iv wr=>∃ (k:Nat) (lf:Int),iv=.int .i64 (k:Int)/\k<=l.length/\Hid (CountAt wr P lf)/\lf<=20000/\-9223372036854775807<=lf/\Hid (0<=lf->lf+zh (l.take k)<=left)/\Hid (w.grownBy wr (some P))) (fun iv _=>l.length-(intOf iv).toNat)
  case atStart=>exact ⟨0,left,rfl,Nat.zero_le _,H0,hl,hl2,(fun _=>by simp [zh]),Yk _ _⟩
  case round=>
    obtain ⟨k,lf,rfl,hk,hC,h1,h2,hT,hG⟩:=hrel;clear H0
    by_cases hlt:k<l.length
    · have hkI:(k:Int)<(l.length:Int):=by omega
      by_cases h0:0<=lf
      · have hd:decide (0<=lf)=true:=by simpa using h0
        obtain ⟨ra,rc,hre,_,hro⟩:=HV.out _ hG.out;injection hre with e1 e2 e3;subst e1 e3;obtain ⟨b0,o0,ha,hb0,hcs⟩:=hro (by omega);subst ha;have HRO:Hid (∀ w',w.grownBy w' (some P)->∃ u,w'.cell? ⟨b0,o0+k,none⟩=some u/\MInts w' u l[k]):=fun w' hw'=>by
          obtain ⟨ra',rc',hre',_,hro'⟩:=HV.out _ hw';injection hre' with e1' e2' e3';obtain ⟨b0',o0',ha',_,hcs'⟩:=hro' (by omega);rw [<-e1'] at ha';injection ha' with ha';injection ha' with h1' h2' _;subst h1' h2';exact hcs' k hlt
        have hnx:=y3h hlt;have HNX:Hid (zh (l.take (k+1))=zh (l.take k)+(l[k].length+1)):=hnx;clear hro hcs e2 hnx
        go_wp2_with (first
          | (go_at_call 25;refine (zT P lf _ hC.out).mono ?_;rintro e w' ⟨rfl,hww⟩;rw [hww])
          | (go_at_call 55;refine mcA (QE P lf _ hC.out h1 h2) ?_;rintro e w1 ⟨⟨bb,rfl⟩,⟨⟨lf1,hC1,h11,h12,hT1⟩,hG1⟩⟩;
             have hg1:=yL hG.out hG1;obtain ⟨u,hu,hI⟩:=HRO.out _ hg1;obtain ⟨ua,uc,hue,hum⟩:=hI.form;subst hue;have HC1:Hid (CountAt w1 P lf1):=hC1;have HT1:Hid (0<=lf1->lf1+1<=lf):=hT1;have HG1:Hid (w.grownBy w1 (some P)):=hg1;
             clear hC1 hT1 hG1 hg1 hI)
          | (go_at_call 55;refine mcA (zP P lf1 (l[k]).length _ HC1.out h11 h12 hum) ?_;rintro e w2 ⟨⟨bc,rfl⟩,⟨⟨lf2,hC2,h21,h22,hT2⟩,hG2⟩⟩;
             have HC2:Hid (CountAt w2 P lf2):=hC2;have HT2:Hid (0<=lf2->lf2+((l[k]).length:Int)<=lf1):=hT2;have HG2:Hid (w.grownBy w2 (some P)):=yL HG1.out hG2;
             clear hC2 hT2 hG2))
        go_roundw
        case rel=>exact ⟨k+1,lf2,by go_num,by omega,HC2,h21,h22,(fun h=>by have a1:=HT2.out h;have a2:=HT1.out (by omega);have a3:=hT.out (by omega);rw [HNX.out];omega),HG2⟩
        case measure=>simp [intOf];omega
      · have hd:decide (0<=lf)=false:=by simpa using h0
        have HD:Hid (Took P left (zh l) w _):=⟨⟨lf,hC.out,h1,h2,fun h=>absurd h h0⟩,hG.out⟩;go_wp2_with (go_at_call 25;refine (zT P lf _ hC.out).mono ?_;rintro e w' ⟨rfl,hww⟩;rw [hww]);go_end0;exact ⟨rfl,HD.out⟩
    · have hkI:¬ (k:Int)<(l.length:Int):=by omega
      have HD:Hid (Took P left (zh l) w _):=⟨⟨lf,hC.out,h1,h2,fun h=>by have:=hT.out h;rwa [List.take_of_length_le (by omega)] at this⟩,hG.out⟩;go_wp2_with fail
      go_end0;exact ⟨rfl,HD.out⟩
end Go.Proofs.YtjgghimjnbjlbaaGreatDoor

namespace Go.Proofs.YtjgghimjnbjlbaaGreatDoor
open Go.RowKit
set_option maxRecDepth 10000
set_option maxHeartbeats 8000000
def xI (c:Md.Cn):Nat:=1+c.terms.length+c.xs.length+c.table.length+zh c.rows
theorem QF (P:Nat) (left:Int) (c:Md.Cn) (vt vx vb vr:Value) (w:World) (h:CountAt w P left) (hl:left<=20000) (hl2:-9223372036854775807<=left) (hC:∀ w',w.grownBy w' (some P)->CnAt w' c vt vx vb vr) :
    Calls Tryz.prog 54 #[.pointer (some ⟨P,0,none⟩),yh c vt vx vb vr] w fun e w'=>e=.returned (.tuple #[])/\Took P left (xI c) w w':=by
  have h0:=hC w (Yk _ _);obtain ⟨ta,tc,rfl,htm⟩:=h0.t.form;obtain ⟨xa,xc,rfl,hxm⟩:=h0.x.form;obtain ⟨ba,bc,rfl,hbm⟩:=h0.b.form;obtain ⟨ra,rc,rfl,hrm⟩:=h0.r.form;have HC:Hid (∀ w',w.grownBy w' (some P)->CnAt w' c (.slice ta c.terms.length tc) (.slice xa c.xs.length xc) (.slice ba c.table.length bc) (.slice ra c.rows.length rc)):=hC;have hP:=h.lt;obtain ⟨W,hW⟩:∃ W,w.alloc (.cells #[.int .i64 c.kind,.int .i64 c.op,.slice ta c.terms.length tc,.int .i64 c.k,.int .i64 c.v,.int .i64 c.x,.int .i64 c.y,.slice xa c.xs.length xc,.slice ba c.table.length bc,.slice ra c.rows.length rc] 51)=W:=⟨_,rfl⟩;have hbW:Below w.heap.size w W:=bAe hW
  have hN:W.heap[w.heap.size]?=some (.cells #[.int .i64 c.kind,.int .i64 c.op,.slice ta c.terms.length tc,.int .i64 c.k,.int .i64 c.v,.int .i64 c.x,.int .i64 c.y,.slice xa c.xs.length xc,.slice ba c.table.length bc,.slice ra c.rows.length rc] 51):=hAe hW;have hNl:w.heap.size<W.heap.size:=(hLt hN);have HN:Hid (∀ w',W.grownBy w' (some P)->w'.heap[w.heap.size]?=some (.cells #[.int .i64 c.kind,.int .i64 c.op,.slice ta c.terms.length tc,.int .i64 c.k,.int .i64 c.v,.int .i64 c.x,.int .i64 c.y,.slice xa c.xs.length xc,.slice ba c.table.length bc,.slice ra c.rows.length rc] 51)):=fun w' hg=>(hg.block _ hNl (fun e=>by injection e with e;omega)).trans hN
  have HG0:Hid (w.grownBy W (some P)):=QD hbW;have HC0:Hid (CountAt W P left):=h.below hbW;obtain ⟨⟨p0,p1,p2,p3,p4,p5,p6,p7,p8,p9⟩,_⟩:=xG hN;clear h0 hC h hbW hN;unfold yh;go_enter Tryz.func54,Tryz.ntmps54
  go_wp2_with (first
    | (go_at_call 55;refine mcA (QE P left _ HC0.out hl hl2) ?_;rintro e w1 ⟨⟨b1,rfl⟩,⟨⟨l1,hC1,h11,h12,hT1⟩,hG1⟩⟩;
       have HC1:Hid (CountAt w1 P l1):=hC1;have HT1:Hid (0<=l1->l1+1<=left):=hT1;have HG1:Hid (W.grownBy w1 (some P)):=hG1;clear hC1 hT1 hG1 p0 p1 p2 p3 p4 p5 p6 p7 p8 p9;
       obtain ⟨⟨p0,p1,p2,p3,p4,p5,p6,p7,p8,p9⟩,_⟩:=xG (HN.out _ HG1.out))
    | (go_at_call 55;refine mcA (zP P l1 c.terms.length _ HC1.out h11 h12 htm) ?_;rintro e w2 ⟨⟨b2,rfl⟩,⟨⟨l2,hC1,h21,h22,hT1⟩,hG1⟩⟩;
       have HC2:Hid (CountAt w2 P l2):=hC1;have HT2:Hid (0<=l2->l2+(c.terms.length:Int)<=l1):=hT1;have HG2:Hid (W.grownBy w2 (some P)):=yL HG1.out hG1;clear hC1 hT1 hG1 p0 p1 p2 p3 p4 p5 p6 p7 p8 p9 HC1;
       obtain ⟨⟨p0,p1,p2,p3,p4,p5,p6,p7,p8,p9⟩,_⟩:=xG (HN.out _ HG2.out))
    | (go_at_call 55;refine mcA (zP P l2 c.xs.length _ HC2.out h21 h22 hxm) ?_;rintro e w3 ⟨⟨b3,rfl⟩,⟨⟨l3,hC1,h31,h32,hT1⟩,hG1⟩⟩;
       have HC3:Hid (CountAt w3 P l3):=hC1;have HT3:Hid (0<=l3->l3+(c.xs.length:Int)<=l2):=hT1;have HG3:Hid (W.grownBy w3 (some P)):=yL HG2.out hG1;clear hC1 hT1 hG1 p0 p1 p2 p3 p4 p5 p6 p7 p8 p9 HC2;
       obtain ⟨⟨p0,p1,p2,p3,p4,p5,p6,p7,p8,p9⟩,_⟩:=xG (HN.out _ HG3.out))
    | (go_at_call 55;refine mcA (zP P l3 c.table.length _ HC3.out h31 h32 hbm) ?_;rintro e w4 ⟨⟨b4,rfl⟩,⟨⟨l4,hC1,h41,h42,hT1⟩,hG1⟩⟩;
       have HC4:Hid (CountAt w4 P l4):=hC1;have HT4:Hid (0<=l4->l4+(c.table.length:Int)<=l3):=hT1;have HG4:Hid (W.grownBy w4 (some P)):=yL HG3.out hG1;clear hC1 hT1 hG1 p0 p1 p2 p3 p4 p5 p6 p7 p8 p9 HC3;
       obtain ⟨⟨p0,p1,p2,p3,p4,p5,p6,p7,p8,p9⟩,_⟩:=xG (HN.out _ HG4.out))
    | (go_at_call 72;refine mcA (y3i P l4 _ c.rows _ HC4.out h41 h42 (fun w' hg=>(HC.out w' (yL HG0.out (yL HG4.out hg))).r)) ?_;rintro e w5 ⟨rfl,⟨⟨l5,hC1,h51,h52,hT1⟩,hG1⟩⟩;
       have HC5:Hid (CountAt w5 P l5):=hC1;have HT5:Hid (0<=l5->l5+(zh c.rows:Int)<=l4):=hT1;have HG5:Hid (W.grownBy w5 (some P)):=yL HG4.out hG1;
       clear hC1 hT1 hG1 p0 p1 p2 p3 p4 p5 p6 p7 p8 p9 HC4))
  go_end0;refine ⟨rfl,⟨⟨l5,HC5.out,h51,h52,fun h=>?_⟩,yL HG0.out HG5.out⟩⟩;have a5:=HT5.out h;have a4:=HT4.out (by omega);have a3:=HT3.out (by omega);have a2:=HT2.out (by omega);have a1:=HT1.out (by omega);unfold xI;omega
end Go.Proofs.YtjgghimjnbjlbaaGreatDoor

namespace Go.Proofs.YtjgghimjnbjlbaaGreatDoor
open Go.RowKit
set_option maxRecDepth 10000
set_option maxHeartbeats 8000000
theorem QM:KindIs 1 107 106 true 64 0 0 0 where
  of:=y3x
  own:=fun c vt vx vb vr w hk hC=>by
    have h1:=y3y c vt vx vb vr w hC;have h2:yZ c=yq c.kind c.op c.k 0 0 0:=by unfold yZ;rw [hk];rfl
    rw [h2];exact h1
  ent:=enters_of Tryz.func107 (by kernel_rfl) rfl
  enh:=enters_of Tryz.func106 (by kernel_rfl) rfl
  op:=rfl
  e0:=rfl
  e1:=rfl
  e2:=rfl
  e3:=rfl
theorem QN:KindIs 2 109 108 false 0 0 0 0 where
  of:=y3z
  own:=fun c vt vx vb vr w hk hC=>by
    have h1:=y3A c vt vx vb vr w hC;have h2:yZ c=yq c.kind 0 c.k 0 c.x c.y:=by unfold yZ;rw [hk];rfl
    rw [h2];exact h1
  ent:=enters_of Tryz.func109 (by kernel_rfl) rfl
  enh:=enters_of Tryz.func108 (by kernel_rfl) rfl
  op:=rfl
  e0:=rfl
  e1:=rfl
  e2:=rfl
  e3:=rfl
theorem QO:KindIs 3 105 110 false 0 64 0 0 where
  of:=y3B
  own:=fun c vt vx vb vr w hk hC=>by
    have h1:=QP c vt vx vb vr w hC;have h2:yZ c=yq c.kind 0 0 0 0 0:=by unfold yZ;rw [hk];rfl
    rw [h2];exact h1
  ent:=enters_of Tryz.func105 (by kernel_rfl) rfl
  enh:=enters_of Tryz.func110 (by kernel_rfl) rfl
  op:=rfl
  e0:=rfl
  e1:=rfl
  e2:=rfl
  e3:=rfl
theorem QQ:KindIs 4 112 111 false 0 0 64 0 where
  of:=y3C
  own:=fun c vt vx vb vr w hk hC=>by
    have h1:=y3D c vt vx vb vr w hC;have h2:yZ c=yq c.kind 0 0 0 c.x c.y:=by unfold yZ;rw [hk];rfl
    rw [h2];exact h1
  ent:=enters_of Tryz.func112 (by kernel_rfl) rfl
  enh:=enters_of Tryz.func111 (by kernel_rfl) rfl
  op:=rfl
  e0:=rfl
  e1:=rfl
  e2:=rfl
  e3:=rfl
theorem QR:KindIs 5 104 113 false 0 64 0 0 where
  of:=y3E
  own:=fun c vt vx vb vr w hk hC=>by
    have h1:=QS c vt vx vb vr w hC;have h2:yZ c=yq c.kind 0 0 0 0 c.y:=by unfold yZ;rw [hk];rfl
    rw [h2];exact h1
  ent:=enters_of Tryz.func104 (by kernel_rfl) rfl
  enh:=enters_of Tryz.func113 (by kernel_rfl) rfl
  op:=rfl
  e0:=rfl
  e1:=rfl
  e2:=rfl
  e3:=rfl
theorem QT:KindIs 6 104 114 false 0 64 0 0 where
  of:=y3F
  own:=fun c vt vx vb vr w hk hC=>by
    have h1:=QS c vt vx vb vr w hC;have h2:yZ c=yq c.kind 0 0 0 0 c.y:=by unfold yZ;rw [hk];rfl
    rw [h2];exact h1
  ent:=enters_of Tryz.func104 (by kernel_rfl) rfl
  enh:=enters_of Tryz.func114 (by kernel_rfl) rfl
  op:=rfl
  e0:=rfl
  e1:=rfl
  e2:=rfl
  e3:=rfl
theorem QU:KindIs 7 116 115 false 64 0 0 0 where
  of:=y3G
  own:=fun c vt vx vb vr w hk hC=>by
    have h1:=y3H c vt vx vb vr w hC;have h2:yZ c=yq c.kind 0 c.k 0 c.x 0:=by unfold yZ;rw [hk];rfl
    rw [h2];exact h1
  ent:=enters_of Tryz.func116 (by kernel_rfl) rfl
  enh:=enters_of Tryz.func115 (by kernel_rfl) rfl
  op:=rfl
  e0:=rfl
  e1:=rfl
  e2:=rfl
  e3:=rfl
theorem QV:KindIs 8 105 117 false 0 8 0 64 where
  of:=y3I
  own:=fun c vt vx vb vr w hk hC=>by
    have h1:=QP c vt vx vb vr w hC;have h2:yZ c=yq c.kind 0 0 0 0 0:=by unfold yZ;rw [hk];rfl
    rw [h2];exact h1
  ent:=enters_of Tryz.func105 (by kernel_rfl) rfl
  enh:=enters_of Tryz.func117 (by kernel_rfl) rfl
  op:=rfl
  e0:=rfl
  e1:=rfl
  e2:=rfl
  e3:=rfl
theorem QW:KindIs 9 119 118 true 0 64 0 0 where
  of:=y3J
  own:=fun c vt vx vb vr w hk hC=>by
    have h1:=y3K c vt vx vb vr w hC;have h2:yZ c=yq c.kind c.op c.k c.v 0 0:=by unfold yZ;rw [hk];rfl
    rw [h2];exact h1
  ent:=enters_of Tryz.func119 (by kernel_rfl) rfl
  enh:=enters_of Tryz.func118 (by kernel_rfl) rfl
  op:=rfl
  e0:=rfl
  e1:=rfl
  e2:=rfl
  e3:=rfl
theorem y3L (c:Md.Cn) (vt vx vb vr:Value) (n:Int) (w:World) (hC:CnAt w c vt vx vb vr) (hk:c.kind<1∨9<c.kind) :
    Calls Tryz.prog 74 #[yh c vt vx vb vr,.int .i64 n] w fun e w'=>e=.returned (.int .i64 (Md.fault c n))/\Below w.heap.size w w':=by
  obtain ⟨ta,tc,rfl,_⟩:=id hC.t;obtain ⟨xa,xc,rfl,_⟩:=id hC.x;obtain ⟨ba,bc,rfl,_⟩:=id hC.b;obtain ⟨ra,rc,rfl,_⟩:=id hC.r;have hres:Hid (Md.fault c n=43):=by
    have:Md.kindBad c.kind c.op=true:=by simp [Md.kindBad,hk]
    show _=_;simp [Md.fault,this]
  have HK:Hid (∀ w,Calls Tryz.prog 61 #[.int .i64 c.kind] w fun e w'=>e=.returned (.tuple #[.agg #[.nilFunc,.bool false,.int .i64 0,.int .i64 0,.int .i64 0,.int .i64 0,.nilFunc],.bool false])/\Below w.heap.size w w'):=fun w=>y3M c.kind w hk
  clear hC hk;unfold yh;go_enter Tryz.func74,Tryz.ntmps74;go_wp2_with fail
  refine (HK.out _).mono ?_;rintro e w1 ⟨rfl,hb1⟩;have hbw:Hid (Below w.heap.size w w1):=((Below.refl _ _).alloc (Nat.le_refl _) _).trans (hb1.mono (by simp));clear hb1;go_wp2_with fail
  go_ret;exact ⟨yi hres.out.symm,hbw.out.alloc hbw.out.size _⟩
theorem QX (c:Md.Cn) (vt vx vb vr:Value) (n:Int) (w:World) (hC:CnAt w c vt vx vb vr) :
    Calls Tryz.prog 74 #[yh c vt vx vb vr,.int .i64 n] w fun e w'=>e=.returned (.int .i64 (Md.fault c n))/\Below w.heap.size w w':=by
  by_cases hk:c.kind<1∨9<c.kind
  · exact y3L c vt vx vb vr n w hC hk
  · have h19:1<=c.kind/\c.kind<=9:=by omega
    rcases (show c.kind=1∨c.kind=2∨c.kind=3∨c.kind=4∨c.kind=5∨c.kind=6∨c.kind=7∨c.kind=8∨c.kind=9 by omega) with h | h | h | h | h | h | h | h | h
    · exact xq c vt vx vb vr n w (by rw [h];exact QM) hC h19
    · exact xq c vt vx vb vr n w (by rw [h];exact QN) hC h19
    · exact xq c vt vx vb vr n w (by rw [h];exact QO) hC h19
    · exact xq c vt vx vb vr n w (by rw [h];exact QQ) hC h19
    · exact xq c vt vx vb vr n w (by rw [h];exact QR) hC h19
    · exact xq c vt vx vb vr n w (by rw [h];exact QT) hC h19
    · exact xq c vt vx vb vr n w (by rw [h];exact QU) hC h19
    · exact xq c vt vx vb vr n w (by rw [h];exact QV) hC h19
    · exact xq c vt vx vb vr n w (by rw [h];exact QW) hC h19
end Go.Proofs.YtjgghimjnbjlbaaGreatDoor

namespace Go.Proofs.YtjgghimjnbjlbaaGreatDoor
open Go.RowKit
set_option maxRecDepth 10000
set_option maxHeartbeats 8000000
theorem y0w (n:Int) (w:World):Calls Tryz.prog 23 #[.int .i64 n] w fun e w'=>e=.returned (.pointer (some ⟨w.heap.size,0,none⟩))/\w'=w.alloc (.cells #[.int .i64 n] 105):=by
  go_enter Tryz.func23,Tryz.ntmps23;go_wp2;go_ret;exact ⟨rfl,rfl⟩
theorem X8 {w W w':World} {P:Nat} (hW:Below w.heap.size w W) (hg:W.grownBy w' (some P)) (hP:w.heap.size<=P):Below w.heap.size w w':=
  ⟨hg.os.trans hW.os,hg.tape.trans hW.tape,hg.output.trans hW.output,Nat.le_trans hW.size hg.size,fun k hk=>(hg.block k (Nat.lt_of_lt_of_le hk hW.size) (fun e=>by injection e with e;omega)).trans (hW.block k hk)⟩
end Go.Proofs.YtjgghimjnbjlbaaGreatDoor
