import Derived.Test.YthohnmplbjhjaaaGreatDoorJ05
import Derived.Test.YthohnmplbjhjaaaGreatDoorJ20
import Derived.Deep.Slices
import Derived.ChangeSame
import Derived.ChangeMaps
import Derived.WideShapes
import Derived.ProofKit
namespace Go.Proofs.YthohnmplbjhjaaaGreatDoor
open Go.ChangeShapes Go.WideShapes Go.ChangeAt Go.RowKit Go.Deep
theorem y1p:Tryz.prog.underlying 24=some (.slice 87):=by kernel_rfl
theorem y1q : Tryz.prog.underlying 87 = some (.struct #[⟨"C", 3, 0, false, "", "", 0⟩, ⟨"X", 3, 1, false, "", "", 8⟩]) := by kernel_rfl
theorem y1r : Tryz.prog.underlying 61 = some (.struct #[⟨"Kind", 3, 0, false, "", "", 0⟩, ⟨"Op", 3, 1, false, "", "", 8⟩, ⟨"Terms", 24, 2, false, "", "", 16⟩, ⟨"K", 3, 3, false, "", "", 40⟩, ⟨"V", 3, 4, false, "", "", 48⟩, ⟨"X", 3, 5, false, "", "", 56⟩, ⟨"Y", 3, 6, false, "", "", 64⟩, ⟨"Xs", 58, 7, false, "", "", 72⟩, ⟨"Table", 58, 8, false, "", "", 96⟩, ⟨"Rows", 59, 9, false, "", "", 120⟩]) := by kernel_rfl
theorem XY:Tryz.prog.cellsOf 61=10:=by kernel_rfl
theorem XZ:Tryz.prog.cellsOf 87=2:=by kernel_rfl
theorem Zd:Tryz.prog.cellsOf 3=1:=by kernel_rfl
theorem Q0:Tryz.prog.cellsOf 58=1:=by kernel_rfl
theorem Q1:Tryz.prog.cellsOf 24=1:=by kernel_rfl
theorem y1s:Tryz.prog.cellsOf 59=1:=by kernel_rfl
theorem YR {α:Type} [Inhabited α] {n:Nat} {p:Nat->α->Prop} (h:∀ i,i<n->∃ a,p i a):∃ l:List α,l.length=n/\∀ i (hi:i<l.length),p i l[i]:=by
 obtain ⟨f,hf⟩:=choose_lt h
 exact ⟨(List.range n).map f,by simp,fun i hi=>by simp only [List.getElem_map,List.getElem_range];exact hf i (by simpa using hi)⟩
section
variable {H : Type} {enc : TypeId × Value → H} {w : World} {base : Nat} {spare : Nat → Bool} {held : Bool} {fuel : Nat} {cs : List Value} {x : DataW H × List MemPlace}
theorem ZS (h:DataW.trod enc Tryz.prog w base spare held fuel 58 cs=some x):∃ v l,cs=[v]/\IntsAt w v l/\∀ a n cp,v=.slice a n cp->n<=cp:=by
 rcases open_slice1 y1l Zd h with ⟨rfl,_⟩ | ⟨a,len,cap,m,n,V,D,Pl,rfl,_,hl,hm,hmm,_,hx⟩
 ·exact ⟨_,[],rfl,⟨none,0,rfl,Nat.zero_le _,fun h=>absurd h (by decide)⟩,fun a n cp h=>by injection h with h1 h2 h3;omega⟩
 ·have hlm:len<=m:=by rw [hmm];split <;> omega
  have each:∀ i,i<len->∃ z:Int,w.cell? (a.add i)=some (.int .i64 z):=fun i hi=>by
   obtain ⟨h1,h2⟩:=hx i (by omega)
   obtain ⟨z,hz,_⟩:=DataW.trod_int Tryz.underlying3 h2
   rw [h1]
   exact ⟨z,congrArg some (by simpa using hz)⟩
  obtain ⟨l,hll,hl2⟩:=YR each
  refine ⟨_,l,rfl,⟨some a,cap,by rw [hll],by omega,fun h0=>?_⟩,fun a n cp h=>by injection h with h1 h2 h3;omega⟩
  obtain ⟨b,off,spot⟩:=a
  have e0:=hl2 0 h0
  have hspot:spot=none:=World.cell?_spot e0
  subst hspot
  refine ⟨b,off,rfl,World.block_lt_of_cell? w _ e0,fun j hj=>?_⟩
  have:=hl2 j hj
  rwa [xd] at this
set_option maxRecDepth 100000 in
theorem Q2 (h:DataW.trod enc Tryz.prog w base spare held fuel 24 cs=some x):∃ v l,cs=[v]/\TermsAt w v l:=by
  rcases open_slice y1p h with ⟨rfl,_⟩ | ⟨a,len,cap,m,n,D,Pl,rfl,_,hl,hm,hmm,_,hx⟩
  · exact ⟨_,[],rfl,⟨none,0,rfl,Nat.zero_le _,fun h=>absurd h (by decide)⟩⟩
  · have hlm:len<=m:=by rw [hmm];split <;> omega
    have each:∀ i,i<len->∃ z:Int × Int,w.cell? (a.add (i * 2))=some (.int .i64 z.1)/\w.cell? (a.add (i * 2+1))=some (.int .i64 z.2):=fun i hi=>by
      obtain ⟨cs',h1,h2⟩:=hx i (by omega)
      rw [XZ] at h1
      obtain ⟨xs,k,_,_,hl,hxl,hf⟩:=DataW.trod_struct y1q h2
      replace hl:cs'.length=2:=hl.trans XZ
      match cs',hl with
      | [v0, v1], _ =>
        have g0:=hf 0 _ rfl
        have g1:=hf 1 _ rfl
        simp [Zd] at g0 g1
        have hx:∀ i,i<2->∃ y,xs[i]?=some y:=fun i hi=>⟨xs[i]'(by rw [hxl];exact hi),List.getElem?_eq_getElem _⟩
        obtain ⟨y0,e0⟩:=hx 0 (by decide)
        obtain ⟨y1,e1⟩:=hx 1 (by decide)
        rw [e0] at g0;rw [e1] at g1
        obtain ⟨n0,h0,_,_⟩:=DataW.trod_int Tryz.underlying3 g0
        obtain ⟨n1,h1',_,_⟩:=DataW.trod_int Tryz.underlying3 g1
        simp at h0 h1'
        subst h0 h1'
        obtain ⟨_,_,hcell⟩:=World.cells?_some h1
        have e0:=hcell 0 (by simp)
        have e1:=hcell 1 (by simp)
        rw [add_add] at e0 e1
        exact ⟨(n0,n1),by simpa using e0,by simpa using e1⟩
    obtain ⟨l,hll,hl2⟩:=YR each
    refine ⟨_,l,rfl,⟨some a,cap,by rw [hll],by omega,fun h0=>?_⟩⟩
    obtain ⟨b,off,spot⟩:=a
    have e0:=(hl2 0 h0).1
    have hspot:spot=none:=World.cell?_spot e0
    subst hspot
    refine ⟨b,off,rfl,World.block_lt_of_cell? w _ e0,fun j hj=>?_⟩
    have:=hl2 j hj
    rw [xd,xd] at this
    exact ⟨this.1,by rw [Nat.add_assoc];exact this.2⟩
theorem y1t (h:DataW.trod enc Tryz.prog w base spare held fuel 59 cs=some x):∃ v l,cs=[v]/\RowsAt w v l:=by
  rcases open_slice1 y1m Q0 h with ⟨rfl,_⟩ | ⟨a,len,cap,m,n,V,D,Pl,rfl,_,hl,hm,hmm,_,hx⟩
  · exact ⟨_,[],rfl,⟨none,0,rfl,Nat.zero_le _,fun h=>absurd h (by decide)⟩⟩
  · have hlm : len ≤ m := by rw [hmm]; split <;> omega
    have each:∀ i,i<len->∃ z:List Int,∃ u,w.cell? (a.add i)=some u/\IntsAt w u z:=fun i hi=>by
      obtain ⟨h1,h2⟩:=hx i (by omega)
      obtain ⟨v,l,hv,hI,_⟩:=ZS h2
      rw [h1]
      exact ⟨l, V i, rfl, by have e : V i = v := by simpa using hv
                             rw [e];exact hI⟩
    obtain ⟨l,hll,hl2⟩:=YR each
    refine ⟨_,l,rfl,⟨some a,cap,by rw [hll],by omega,fun h0=>?_⟩⟩
    obtain ⟨b,off,spot⟩:=a
    obtain ⟨u0,e0,_⟩:=hl2 0 h0
    have hspot:spot=none:=World.cell?_spot e0
    subst hspot
    refine ⟨b,off,rfl,World.block_lt_of_cell? w _ e0,fun j hj=>?_⟩
    have:=hl2 j hj
    rwa [xd] at this
set_option maxRecDepth 100000 in
theorem y1u (h:DataW.trod enc Tryz.prog w base spare held fuel 61 cs=some x):∃ c vt vx vb vr,cs=[.int .i64 c.kind,.int .i64 c.op,vt,.int .i64 c.k,.int .i64 c.v,.int .i64 c.x,.int .i64 c.y,vx,vb,vr]/\CnAt w c vt vx vb vr:=by
  obtain ⟨xs,k,_,_,hl,hxl,hf⟩:=DataW.trod_struct y1r h
  replace hl:cs.length=10:=hl.trans XY
  match cs,hl with
  | [v0, v1, v2, v3, v4, v5, v6, v7, v8, v9], _ =>
    have g0:=hf 0 _ rfl
    have g1:=hf 1 _ rfl
    have g2:=hf 2 _ rfl
    have g3:=hf 3 _ rfl
    have g4:=hf 4 _ rfl
    have g5:=hf 5 _ rfl
    have g6:=hf 6 _ rfl
    have g7:=hf 7 _ rfl
    have g8:=hf 8 _ rfl
    have g9:=hf 9 _ rfl
    simp [Zd,Q1,Q0,y1s] at g0 g1 g2 g3 g4 g5 g6 g7 g8 g9
    have hx:∀ i,i<10->∃ y,xs[i]?=some y:=fun i hi=>⟨xs[i]'(by rw [hxl];exact hi),List.getElem?_eq_getElem _⟩
    obtain ⟨y0,e0⟩:=hx 0 (by decide)
    obtain ⟨y1,e1⟩:=hx 1 (by decide)
    obtain ⟨y2,e2⟩:=hx 2 (by decide)
    obtain ⟨y3,e3⟩:=hx 3 (by decide)
    obtain ⟨y4,e4⟩:=hx 4 (by decide)
    obtain ⟨y5,e5⟩:=hx 5 (by decide)
    obtain ⟨y6,e6⟩:=hx 6 (by decide)
    obtain ⟨y7,e7⟩:=hx 7 (by decide)
    obtain ⟨y8,e8⟩:=hx 8 (by decide)
    obtain ⟨y9,e9⟩:=hx 9 (by decide)
    rw [e0] at g0;rw [e1] at g1;rw [e2] at g2;rw [e3] at g3;rw [e4] at g4;rw [e5] at g5;rw [e6] at g6;rw [e7] at g7;rw [e8] at g8;rw [e9] at g9
    obtain ⟨n0,h0,_,_⟩:=DataW.trod_int Tryz.underlying3 g0
    obtain ⟨n1,h1,_,_⟩:=DataW.trod_int Tryz.underlying3 g1
    obtain ⟨u2,l2,h2,A2⟩:=Q2 g2
    obtain ⟨n3,h3,_,_⟩:=DataW.trod_int Tryz.underlying3 g3
    obtain ⟨n4,h4,_,_⟩:=DataW.trod_int Tryz.underlying3 g4
    obtain ⟨n5,h5,_,_⟩:=DataW.trod_int Tryz.underlying3 g5
    obtain ⟨n6,h6,_,_⟩:=DataW.trod_int Tryz.underlying3 g6
    obtain ⟨u7,l7,h7,A7,C7⟩:=ZS g7
    obtain ⟨u8,l8,h8,A8,_⟩:=ZS g8
    obtain ⟨u9,l9,h9,A9⟩:=y1t g9
    simp at h0 h1 h2 h3 h4 h5 h6 h7 h8 h9
    subst h0 h1 h2 h3 h4 h5 h6 h7 h8 h9
    exact ⟨⟨n0,n1,l2,n3,n4,n5,n6,l7,l8,l9⟩,_,_,_,_,rfl,⟨A2,A7,C7,A8,A9⟩⟩
end
end Go.Proofs.YthohnmplbjhjaaaGreatDoor
