import Derived.Test.YthohnmplbjhjaaaGreatDoorMdOpen
import Derived.Test.YthohnmplbjhjaaaGreatDoorMdLayKW
import Derived.Test.YthohnmplbjhjaaaGreatDoorJ26
import Derived.Test.YthohnmplbjhjaaaGreatDoorJ23
import Derived.Test.YthohnmplbjhjaaaGreatDoorJ05
import Derived.WalkSmall
import Derived.Test.YthohnmplbjhjaaaGreatDoorJ06
import Derived.Deep.RegionHeld3
import Derived.BigGuardPart
namespace Go.Proofs.YthohnmplbjhjaaaGreatDoor
open Go.ChangeShapes Go.WideShapes Go.ChangeAt Go.RowKit Go.Deep
theorem y1v : Tryz.prog.underlying 56 = some (.struct #[⟨"Name", 9, 0, false, "", "", 0⟩, ⟨"Lo", 3, 1, false, "", "", 16⟩, ⟨"Hi", 3, 2, false, "", "", 24⟩]) := by kernel_rfl
theorem ZT : Tryz.prog.underlying 26 = some (.struct #[⟨"Vars", 22, 0, false, "", "", 0⟩, ⟨"Cons", 23, 1, false, "", "", 24⟩, ⟨"HasGoal", 4, 2, false, "", "", 48⟩, ⟨"Goal", 24, 3, false, "", "", 56⟩]) := by kernel_rfl
theorem Q3:Tryz.prog.cellsOf 56=3:=by kernel_rfl
theorem y1w:Tryz.prog.cellsOf 26=4:=by kernel_rfl
theorem y1x:Tryz.prog.cellsOf 9=1:=by kernel_rfl
theorem y1y:Tryz.prog.cellsOf 4=1:=by kernel_rfl
theorem y1z:Tryz.prog.cellsOf 22=1:=by kernel_rfl
theorem y1A:Tryz.prog.cellsOf 23=1:=by kernel_rfl
section
variable {H : Type} {enc : TypeId × Value → H} {w : World} {base : Nat} {spare : Nat → Bool} {held : Bool} {fuel : Nat} {cs : List Value} {x : DataW H × List MemPlace}
set_option maxRecDepth 100000 in
theorem y1B (h:DataW.trod enc Tryz.prog w base spare held fuel 22 cs=some x):∃ v l,cs=[v]/\VarsAt w v l/\∀ a n cp,v=.slice a n cp->n<=cp:=by
  rcases open_slice y1o h with ⟨rfl,_⟩ | ⟨a,len,cap,m,n,D,Pl,rfl,_,hl,hm,hmm,_,hx⟩
  · exact ⟨_,[],rfl,⟨none,0,rfl,Nat.zero_le _,fun x hx=>by simp at hx,fun h=>absurd h (by decide)⟩,fun a n cp h=>by injection h with h1 h2 h3;omega⟩
  · have hlm:len<=m:=by rw [hmm];split <;> omega
    have each:∀ i,i<len->∃ z:Md.Vr,(w.cell? (a.add (i * 3))=some (.string z.name)/\w.cell? (a.add (i * 3+1))=some (.int .i64 z.lo)/\w.cell? (a.add (i * 3+2))=some (.int .i64 z.hi))/\z.name.size<=maxLen:=fun i hi=>by
      obtain ⟨cs',h1,h2⟩:=hx i (by omega)
      rw [Q3] at h1
      obtain ⟨xs,k,_,_,hl,hxl,hf⟩:=DataW.trod_struct y1v h2
      replace hl:cs'.length=3:=hl.trans Q3
      match cs',hl with
      | [v0, v1, v2], _ =>
        have g0:=hf 0 _ rfl
        have g1:=hf 1 _ rfl
        have g2:=hf 2 _ rfl
        simp [Zd,y1x] at g0 g1 g2
        have hx:∀ i,i<3->∃ y,xs[i]?=some y:=fun i hi=>⟨xs[i]'(by rw [hxl];exact hi),List.getElem?_eq_getElem _⟩
        obtain ⟨y0,e0⟩:=hx 0 (by decide)
        obtain ⟨y1,e1⟩:=hx 1 (by decide)
        obtain ⟨y2,e2⟩:=hx 2 (by decide)
        rw [e0] at g0;rw [e1] at g1;rw [e2] at g2
        obtain ⟨s,h0,_,hs⟩:=DataW.trod_string Tryz.underlying9 g0
        obtain ⟨n1,h1',_,_⟩:=DataW.trod_int Tryz.underlying3 g1
        obtain ⟨n2,h2',_,_⟩:=DataW.trod_int Tryz.underlying3 g2
        simp at h0 h1' h2'
        subst h0 h1' h2'
        obtain ⟨_,_,hcell⟩:=World.cells?_some h1
        have e0:=hcell 0 (by simp)
        have e1:=hcell 1 (by simp)
        have e2:=hcell 2 (by simp)
        rw [add_add] at e0 e1 e2
        exact ⟨⟨s,n1,n2⟩,⟨by simpa using e0,by simpa using e1,by simpa using e2⟩,hs⟩
    haveI:Inhabited Md.Vr:=⟨⟨⟨#[]⟩,0,0⟩⟩
    obtain ⟨l,hll,hl2⟩:=YR each
    refine ⟨_,l,rfl,⟨some a,cap,by rw [hll],by omega,fun x hx=>?_,fun h0=>?_⟩,fun a n cp h=>by injection h with h1 h2 h3;omega⟩
    · obtain ⟨i,hi,rfl⟩:=List.getElem_of_mem hx
      exact (hl2 i hi).2
    · obtain ⟨b,off,spot⟩:=a
      have e0:=(hl2 0 h0).1.1
      have hspot:spot=none:=World.cell?_spot e0
      subst hspot
      refine ⟨b,off,rfl,World.block_lt_of_cell? w _ e0,fun j hj=>?_⟩
      have:=(hl2 j hj).1
      rw [xd,xd,xd] at this
      exact ⟨this.1,by rw [Nat.add_assoc];exact this.2.1,by rw [Nat.add_assoc];exact this.2.2⟩
theorem y1C (h:DataW.trod enc Tryz.prog w base spare held fuel 23 cs=some x):∃ v l,cs=[v]/\ConsAt w v l:=by
 rcases open_slice y1n h with ⟨rfl,_⟩ | ⟨a,len,cap,m,n,D,Pl,rfl,_,hl,hm,hmm,_,hx⟩
 ·exact ⟨_,[],rfl,⟨none,0,rfl,Nat.zero_le _,fun h=>absurd h (by decide)⟩⟩
 ·have hlm:len<=m:=by rw [hmm];split <;> omega
  have each:∀ i,i<len->∃ c:Md.Cn,∃ vt vx vb vr,CnAt w c vt vx vb vr/\∀ j u,[.int .i64 c.kind,.int .i64 c.op,vt,.int .i64 c.k,.int .i64 c.v,.int .i64 c.x,.int .i64 c.y,vx,vb,vr][j]?=some u->w.cell? (a.add (i * 10+j))=some u:=fun i hi=>by
   obtain ⟨cs',h1,h2⟩:=hx i (by omega)
   rw [XY] at h1
   obtain ⟨c,vt,vx,vb,vr,hc,hC⟩:=y1u h2
   subst hc
   obtain ⟨_,_,hcell⟩:=World.cells?_some h1
   refine ⟨c,vt,vx,vb,vr,hC,fun j u hj=>?_⟩
   have:=hcell j (List.getElem?_eq_some_iff.1 hj).1
   rw [add_add] at this
   rw [this];exact hj
  haveI:Inhabited Md.Cn:=⟨⟨0,0,[],0,0,0,0,[],[],[]⟩⟩
  obtain ⟨l,hll,hl2⟩:=YR each
  refine ⟨_,l,rfl,⟨some a,cap,by rw [hll],by omega,fun h0=>?_⟩⟩
  obtain ⟨b,off,spot⟩:=a
  obtain ⟨_,_,_,_,_,e0⟩:=hl2 0 h0
  have e0':=e0 0 _ rfl
  have hspot:spot=none:=World.cell?_spot e0'
  subst hspot
  refine ⟨b,off,rfl,World.block_lt_of_cell? w _ e0',fun j hj=>?_⟩
  obtain ⟨vt,vx,vb,vr,hC,he⟩:=hl2 j hj
  have he':∀ i u,[.int .i64 l[j].kind,.int .i64 l[j].op,vt,.int .i64 l[j].k,.int .i64 l[j].v,.int .i64 l[j].x,.int .i64 l[j].y,vx,vb,vr][i]?=some u->w.cell? ⟨b,off+j * 10+i,none⟩=some u:=fun i u hu=>by
   have:=he i u hu
   rw [xd] at this
   rw [Nat.add_assoc];exact this
  exact ⟨vt,vx,vb,vr,hC,he' 0 _ rfl,he' 1 _ rfl,he' 2 _ rfl,he' 3 _ rfl,he' 4 _ rfl,he' 5 _ rfl,he' 6 _ rfl,he' 7 _ rfl,he' 8 _ rfl,he' 9 _ rfl⟩
set_option maxRecDepth 100000 in
theorem Q4 (h:DataW.trod enc Tryz.prog w base spare held fuel 26 cs=some x):∃ m vv vc vg,cs=[vv,vc,.bool m.has,vg]/\MoAt w m vv vc vg:=by
  obtain ⟨xs,k,_,_,hl,hxl,hf⟩:=DataW.trod_struct ZT h
  replace hl:cs.length=4:=hl.trans y1w
  match cs,hl with
  | [v0, v1, v2, v3], _ =>
    have g0:=hf 0 _ rfl
    have g1:=hf 1 _ rfl
    have g2:=hf 2 _ rfl
    have g3:=hf 3 _ rfl
    simp [y1z,y1A,Q1,y1y] at g0 g1 g2 g3
    have hx:∀ i,i<4->∃ y,xs[i]?=some y:=fun i hi=>⟨xs[i]'(by rw [hxl];exact hi),List.getElem?_eq_getElem _⟩
    obtain ⟨y0,e0⟩:=hx 0 (by decide)
    obtain ⟨y1,e1⟩:=hx 1 (by decide)
    obtain ⟨y2,e2⟩:=hx 2 (by decide)
    obtain ⟨y3,e3⟩:=hx 3 (by decide)
    rw [e0] at g0;rw [e1] at g1;rw [e2] at g2;rw [e3] at g3
    obtain ⟨u0,l0,h0,A0,C0⟩:=y1B g0
    obtain ⟨u1,l1,h1,A1⟩:=y1C g1
    obtain ⟨b2,h2,_⟩:=DataW.trod_bool Tryz.underlying4 g2
    obtain ⟨u3,l3,h3,A3⟩:=Q2 g3
    simp at h0 h1 h2 h3
    subst h0 h1 h2 h3
    exact ⟨⟨l0,l1,b2,l3⟩,_,_,_,rfl,⟨A0,C0,A1,A3⟩⟩
end
end Go.Proofs.YthohnmplbjhjaaaGreatDoor
