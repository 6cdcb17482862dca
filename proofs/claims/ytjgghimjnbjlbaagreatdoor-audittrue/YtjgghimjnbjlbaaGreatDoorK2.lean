/-
  Put together: MdOpen, MdOpenM, ApOpen.
-/
import Derived.Test.YtjgghimjnbjlbaaGreatDoorJ04
import Derived.Test.YtjgghimjnbjlbaaGreatDoorJ02
import Derived.Deep.Slices
import Derived.ChangeSame
import Derived.ChangeMaps
import Derived.WideShapes
import Derived.ProofKit
import Derived.Test.YtjgghimjnbjlbaaGreatDoorJ19
import Derived.SizedLaws
namespace Go.Proofs.YtjgghimjnbjlbaaGreatDoor
open Go.ChangeShapes Go.WideShapes Go.ChangeAt Go.RowKit Go.Deep
set_option maxRecDepth 10000
set_option maxHeartbeats 8000000
theorem Zc:Tryz.prog.underlying 27=some (.slice 3):=by kernel_rfl
theorem Zd:Tryz.prog.underlying 30=some (.slice 27):=by kernel_rfl
theorem Ze:Tryz.prog.underlying 24=some (.slice 67):=by kernel_rfl
theorem y4c : Tryz.prog.underlying 67 = some (.struct #[⟨"C", 3, 0, false, "", "", 0⟩, ⟨"X", 3, 1, false, "", "", 8⟩]) := by kernel_rfl
theorem Xd : Tryz.prog.underlying 51 = some (.struct #[⟨"Kind", 3, 0, false, "", "", 0⟩, ⟨"Op", 3, 1, false, "", "", 8⟩, ⟨"Terms", 24, 2, false, "", "", 16⟩, ⟨"K", 3, 3, false, "", "", 40⟩, ⟨"V", 3, 4, false, "", "", 48⟩, ⟨"X", 3, 5, false, "", "", 56⟩, ⟨"Y", 3, 6, false, "", "", 64⟩, ⟨"Xs", 27, 7, false, "", "", 72⟩, ⟨"Table", 27, 8, false, "", "", 96⟩, ⟨"Rows", 30, 9, false, "", "", 120⟩]) := by kernel_rfl
theorem Xe:Tryz.prog.cellsOf 51=10:=by kernel_rfl
theorem Ke:Tryz.prog.cellsOf 67=2:=by kernel_rfl
theorem Yr:Tryz.prog.cellsOf 3=1:=by kernel_rfl
theorem Xc:Tryz.prog.cellsOf 27=1:=by kernel_rfl
theorem Xf:Tryz.prog.cellsOf 24=1:=by kernel_rfl
theorem y0G:Tryz.prog.cellsOf 30=1:=by kernel_rfl
theorem Yd {α:Type} [Inhabited α] {n:Nat} {p:Nat->α->Prop} (h:∀ i,i<n->∃ a,p i a):∃ l:List α,l.length=n/\∀ i (hi:i<l.length),p i l[i]:=by
  obtain ⟨f,hf⟩:=choose_lt h;exact ⟨(List.range n).map f,by simp,fun i hi=>by simp only [List.getElem_map,List.getElem_range];exact hf i (by simpa using hi)⟩
section
variable {H : Type} {enc : TypeId × Value → H} {w : World} {base : Nat} {spare : Nat → Bool} {held : Bool} {fuel : Nat} {cs : List Value} {x : DataW H × List MemPlace}
theorem Xb (h:DataW.trod enc Tryz.prog w base spare held fuel 27 cs=some x):∃ v l,cs=[v]/\MInts w v l/\∀ a n cp,v=.slice a n cp->n<=cp:=by
  rcases open_slice1 Zc Yr h with ⟨rfl,_⟩ | ⟨a,len,cap,m,n,V,D,Pl,rfl,_,hl,hm,hmm,_,hx⟩
  · exact ⟨_,[],rfl,⟨none,0,rfl,Nat.zero_le _,fun h=>absurd h (by decide)⟩,fun a n cp h=>by injection h with h1 h2 h3;omega⟩
  · have hlm:len<=m:=by rw [hmm];split <;> omega
    have each:∀ i,i<len->∃ z:Int,w.cell? (a.add i)=some (.int .i64 z):=fun i hi=>by
      obtain ⟨h1,h2⟩:=hx i (by omega);obtain ⟨z,hz,_⟩:=DataW.trod_int Tryz.underlying3 h2;rw [h1];exact ⟨z,congrArg some (by simpa using hz)⟩
    obtain ⟨l,hll,hl2⟩:=Yd each;refine ⟨_,l,rfl,⟨some a,cap,by rw [hll],by omega,fun h0=>?_⟩,fun a n cp h=>by injection h with h1 h2 h3;omega⟩;obtain ⟨b,off,spot⟩:=a;have e0:=hl2 0 h0;have hspot:spot=none:=World.cell?_spot e0;subst hspot;refine ⟨b,off,rfl,World.block_lt_of_cell? w _ e0,fun j hj=>?_⟩;have:=hl2 j hj
    rwa [zx] at this
theorem Xg (h:DataW.trod enc Tryz.prog w base spare held fuel 24 cs=some x):∃ v l,cs=[v]/\TermsAt w v l:=by
  rcases open_slice Ze h with ⟨rfl,_⟩ | ⟨a,len,cap,m,n,D,Pl,rfl,_,hl,hm,hmm,_,hx⟩
  · exact ⟨_,[],rfl,⟨none,0,rfl,Nat.zero_le _,fun h=>absurd h (by decide)⟩⟩
  · have hlm:len<=m:=by rw [hmm];split <;> omega
    have each:∀ i,i<len->∃ z:Int × Int,w.cell? (a.add (i * 2))=some (.int .i64 z.1)/\w.cell? (a.add (i * 2+1))=some (.int .i64 z.2):=fun i hi=>by
      obtain ⟨cs',h1,h2⟩:=hx i (by omega);rw [Ke] at h1;obtain ⟨xs,k,_,_,hl,hxl,hf⟩:=DataW.trod_struct y4c h2
      replace hl:cs'.length=2:=hl.trans Ke
      match cs',hl with
      | [v0, v1], _ =>
        have g0:=hf 0 _ rfl;have g1:=hf 1 _ rfl;simp [Yr] at g0 g1;have hx:∀ i,i<2->∃ y,xs[i]?=some y:=fun i hi=>⟨xs[i]'(by rw [hxl];exact hi),List.getElem?_eq_getElem _⟩
        obtain ⟨y0,e0⟩:=hx 0 (by decide);obtain ⟨y1,e1⟩:=hx 1 (by decide);rw [e0] at g0;rw [e1] at g1;obtain ⟨n0,h0,_,_⟩:=DataW.trod_int Tryz.underlying3 g0;obtain ⟨n1,h1',_,_⟩:=DataW.trod_int Tryz.underlying3 g1;simp at h0 h1';subst h0 h1';obtain ⟨_,_,hcell⟩:=World.cells?_some h1;have e0:=hcell 0 (by simp);have e1:=hcell 1 (by simp);rw [add_add] at e0 e1;exact ⟨(n0,n1),by simpa using e0,by simpa using e1⟩
    obtain ⟨l,hll,hl2⟩:=Yd each;refine ⟨_,l,rfl,⟨some a,cap,by rw [hll],by omega,fun h0=>?_⟩⟩;obtain ⟨b,off,spot⟩:=a;have e0:=(hl2 0 h0).1;have hspot:spot=none:=World.cell?_spot e0;subst hspot;refine ⟨b,off,rfl,World.block_lt_of_cell? w _ e0,fun j hj=>?_⟩;have:=hl2 j hj;rw [zx,zx] at this;exact ⟨this.1,by rw [Nat.add_assoc];exact this.2⟩
end
end Go.Proofs.YtjgghimjnbjlbaaGreatDoor

namespace Go.Proofs.YtjgghimjnbjlbaaGreatDoor
open Go.ChangeShapes Go.WideShapes Go.ChangeAt Go.RowKit Go.Deep
set_option maxRecDepth 10000
set_option maxHeartbeats 8000000
theorem Xh:Tryz.prog.underlying 22=some (.slice 49):=by kernel_rfl
theorem Zf:Tryz.prog.underlying 23=some (.slice 51):=by kernel_rfl
theorem y4d : Tryz.prog.underlying 49 = some (.struct #[⟨"Name", 9, 0, false, "", "", 0⟩, ⟨"Lo", 3, 1, false, "", "", 16⟩, ⟨"Hi", 3, 2, false, "", "", 24⟩]) := by kernel_rfl
theorem Zg : Tryz.prog.underlying 26 = some (.struct #[⟨"Vars", 22, 0, false, "", "", 0⟩, ⟨"Cons", 23, 1, false, "", "", 24⟩, ⟨"HasGoal", 4, 2, false, "", "", 48⟩, ⟨"Goal", 24, 3, false, "", "", 56⟩]) := by kernel_rfl
theorem Kf:Tryz.prog.cellsOf 49=3:=by kernel_rfl
theorem y0J:Tryz.prog.cellsOf 26=4:=by kernel_rfl
theorem y4e:Tryz.prog.cellsOf 9=1:=by kernel_rfl
theorem y0M:Tryz.prog.cellsOf 4=1:=by kernel_rfl
theorem y0K:Tryz.prog.cellsOf 22=1:=by kernel_rfl
theorem y0L:Tryz.prog.cellsOf 23=1:=by kernel_rfl
section
variable {H : Type} {enc : TypeId × Value → H} {w : World} {base : Nat} {spare : Nat → Bool} {held : Bool} {fuel : Nat} {cs : List Value} {x : DataW H × List MemPlace}
theorem y0N (h:DataW.trod enc Tryz.prog w base spare held fuel 22 cs=some x):∃ v l,cs=[v]/\VarsAt w v l/\∀ a n cp,v=.slice a n cp->n<=cp:=by
  rcases open_slice Xh h with ⟨rfl,_⟩ | ⟨a,len,cap,m,n,D,Pl,rfl,_,hl,hm,hmm,_,hx⟩
  · exact ⟨_,[],rfl,⟨none,0,rfl,Nat.zero_le _,fun x hx=>by simp at hx,fun h=>absurd h (by decide)⟩,fun a n cp h=>by injection h with h1 h2 h3;omega⟩
  · have hlm:len<=m:=by rw [hmm];split <;> omega
    have each:∀ i,i<len->∃ z:Md.Vr,(w.cell? (a.add (i * 3))=some (.string z.name)/\w.cell? (a.add (i * 3+1))=some (.int .i64 z.lo)/\w.cell? (a.add (i * 3+2))=some (.int .i64 z.hi))/\z.name.size<=maxLen:=fun i hi=>by
      obtain ⟨cs',h1,h2⟩:=hx i (by omega);rw [Kf] at h1;obtain ⟨xs,k,_,_,hl,hxl,hf⟩:=DataW.trod_struct y4d h2
      replace hl:cs'.length=3:=hl.trans Kf
      match cs',hl with
      | [v0, v1, v2], _ =>
        have g0:=hf 0 _ rfl;have g1:=hf 1 _ rfl;have g2:=hf 2 _ rfl;simp [Yr,y4e] at g0 g1 g2;have hx:∀ i,i<3->∃ y,xs[i]?=some y:=fun i hi=>⟨xs[i]'(by rw [hxl];exact hi),List.getElem?_eq_getElem _⟩
        obtain ⟨y0,e0⟩:=hx 0 (by decide);obtain ⟨y1,e1⟩:=hx 1 (by decide);obtain ⟨y2,e2⟩:=hx 2 (by decide);rw [e0] at g0;rw [e1] at g1;rw [e2] at g2;obtain ⟨s,h0,_,hs⟩:=DataW.trod_string Tryz.underlying9 g0;obtain ⟨n1,h1',_,_⟩:=DataW.trod_int Tryz.underlying3 g1;obtain ⟨n2,h2',_,_⟩:=DataW.trod_int Tryz.underlying3 g2;simp at h0 h1' h2';subst h0 h1' h2';obtain ⟨_,_,hcell⟩:=World.cells?_some h1;have e0:=hcell 0 (by simp);have e1:=hcell 1 (by simp);have e2:=hcell 2 (by simp);rw [add_add] at e0 e1 e2;exact ⟨⟨s,n1,n2⟩,⟨by simpa using e0,by simpa using e1,by simpa using e2⟩,hs⟩
    haveI:Inhabited Md.Vr:=⟨⟨⟨#[]⟩,0,0⟩⟩
    obtain ⟨l,hll,hl2⟩:=Yd each;refine ⟨_,l,rfl,⟨some a,cap,by rw [hll],by omega,fun x hx=>?_,fun h0=>?_⟩,fun a n cp h=>by injection h with h1 h2 h3;omega⟩
    · obtain ⟨i,hi,rfl⟩:=List.getElem_of_mem hx
      exact (hl2 i hi).2
    · obtain ⟨b,off,spot⟩:=a
      have e0:=(hl2 0 h0).1.1;have hspot:spot=none:=World.cell?_spot e0;subst hspot;refine ⟨b,off,rfl,World.block_lt_of_cell? w _ e0,fun j hj=>?_⟩;have:=(hl2 j hj).1;rw [zx,zx,zx] at this;exact ⟨this.1,by rw [Nat.add_assoc];exact this.2.1,by rw [Nat.add_assoc];exact this.2.2⟩
end
end Go.Proofs.YtjgghimjnbjlbaaGreatDoor

namespace Go.Proofs.YtjgghimjnbjlbaaGreatDoor
open Go.ChangeShapes Go.WideShapes Go.ChangeAt Go.RowKit Go.Deep
set_option maxRecDepth 10000
set_option maxHeartbeats 8000000
def zX {H:Type} (t:TypeId) (d:DataW H):Prop:=∀ x∈d.weights Tryz.prog t,x<=reachBytes
theorem y0y {H:Type} {P:Program} {e:TypeId} {l:List (DataW H)} {d:DataW H} (h:d∈l):∀ x∈d.weights P e,x∈DataW.weightsAll P e l:=by
  induction l with
  | nil=>cases h
  | cons a l ih =>
    intro x hx;unfold DataW.weightsAll;rcases List.mem_cons.1 h with rfl | h
    · exact List.mem_append_left _ hx
    · exact List.mem_append_right _ (ih h x hx)
theorem zY {H:Type} {P:Program} {ts:List TypeId} {ds:List (DataW H)} (h:∀ x∈DataW.weightsEach P ts ds,x<=reachBytes) {j:Nat} {t:TypeId} {d:DataW H} (ht:ts[j]?=some t) (hd:ds[j]?=some d):∀ x∈d.weights P t,x<=reachBytes:=by
  induction ts generalizing ds j with
  | nil=>simp at ht
  | cons a ts ih =>
    cases ds with
    | nil=>simp at hd
    | cons b ds =>
      unfold DataW.weightsEach at h
      cases j with
      | zero =>
        simp at ht hd;subst ht hd;exact fun x hx=>h x (List.mem_append_left _ hx)
      | succ j=>exact ih (fun x hx=>h x (List.mem_append_right _ hx)) (by simpa using ht) (by simpa using hd)
theorem room {n k:Nat} (h:n * k<=reachBytes) {b:Nat} (hb:140737488351232<(b+1) * k):n<=b:=by
  refine Nat.not_lt.1 fun hn=>?_
  have h1:(b+1) * k<=n * k:=Nat.mul_le_mul_right k hn;have h2:reachBytes=140737488351232:=rfl;omega
def Yq (c:Md.Cn):Prop:=c.terms.length<=8796093022208/\c.xs.length<=17592186044416/\c.table.length<=17592186044416/\c.rows.length<=5864062014805/\∀ r∈c.rows,r.length<=17592186044416
def y0z (m:Md.Mo):Prop:=(m.vars.length<=4398046511104/\m.cons.length<=977343669134/\m.goal.length<=8796093022208)/\∀ c∈m.cons,Yq c
section
variable {H : Type} {enc : TypeId × Value → H} {w : World} {base : Nat} {spare : Nat → Bool} {held : Bool} {fuel : Nat} {cs : List Value} {x : DataW H × List MemPlace}
theorem Y2 {t e:TypeId} {k:Nat} {v:Value} (ht:Tryz.prog.underlying t=some (.slice e)) (hk:Tryz.prog.bytesOf e=k) (h:DataW.trod enc Tryz.prog w base spare held fuel t [v]=some x) (hf:zX t x.1):∀ a n cp,v=.slice a n cp->n * k<=reachBytes:=by
  intro a' n' cp' hv;rcases open_slice ht h with ⟨he,_⟩ | ⟨a,len,cap,m,n,D,Pl,he,_,hl,hm,hmm,hx,_⟩
  · simp only [List.cons.injEq,and_true] at he
    rw [he] at hv;injection hv with h1 h2 h3;rw [<-h2,Nat.zero_mul];exact Nat.zero_le _
  · simp only [List.cons.injEq,and_true] at he
    rw [he] at hv;injection hv with h1 h2 h3;have:=hf ((((List.range len).map D).length+((List.range (m-len)).map fun j=>D (len+j)).length) * Tryz.prog.bytesOf e) (by rw [hx];unfold DataW.weights;rw [ht];exact List.mem_cons_self);rw [hk,List.length_map,List.length_range] at this;have h4:=Nat.mul_le_mul_right k (Nat.le_add_right len ((List.range (m-len)).map fun j=>D (len+j)).length);rw [<-h2];omega
theorem X9 {t e:TypeId} (ht:Tryz.prog.underlying t=some (.slice e)) {xs sp:List (DataW H)} (hf:zX t (.slice xs sp)):∀ d∈xs,zX e d:=fun d hd y hy=>hf y (by
  unfold DataW.weights;rw [ht]
  exact List.mem_cons_of_mem _ (List.mem_append_left _ (y0y hd y hy)))
theorem Xa:Tryz.prog.bytesOf 67=16:=by kernel_rfl
theorem y0A:Tryz.prog.bytesOf 3=8:=by kernel_rfl
theorem y0B:Tryz.prog.bytesOf 27=24:=by kernel_rfl
theorem y0C:Tryz.prog.bytesOf 49=32:=by kernel_rfl
theorem y0D:Tryz.prog.bytesOf 51=144:=by kernel_rfl
theorem Zb (h:DataW.trod enc Tryz.prog w base spare held fuel 27 cs=some x) (hf:zX 27 x.1):∃ v l,cs=[v]/\MInts w v l/\(∀ a n cp,v=.slice a n cp->n<=cp)/\l.length * 8<=reachBytes:=by
  obtain ⟨v,l,rfl,hI,hc⟩:=Xb h;obtain ⟨a,c,hv,_⟩:=id hI;exact ⟨v,l,rfl,hI,hc,Y2 Zc y0A h hf a l.length c hv⟩
theorem y0E (h:DataW.trod enc Tryz.prog w base spare held fuel 30 cs=some x) (hf:zX 30 x.1):∃ v l,cs=[v]/\RowsAt w v l/\∀ r∈l,r.length * 8<=reachBytes:=by
  rcases open_slice1 Zd Xc h with ⟨rfl,_⟩ | ⟨a,len,cap,m,n,V,D,Pl,rfl,_,hl,hm,hmm,hxe,hx⟩
  · exact ⟨_,[],rfl,⟨none,0,rfl,Nat.zero_le _,fun h=>absurd h (by decide)⟩,fun r hr=>by cases hr⟩
  · have hlm:len<=m:=by rw [hmm];split <;> omega
    rw [hxe] at hf;have each:∀ i,i<len->∃ z:List Int,z.length * 8<=reachBytes/\∃ u,w.cell? (a.add i)=some u/\MInts w u z:=fun i hi=>by
      obtain ⟨h1,h2⟩:=hx i (by omega);obtain ⟨v,l,hv,hI,_,hR⟩:=Zb h2 (X9 Zd hf (D i) (List.mem_map.2 ⟨i,List.mem_range.2 hi,rfl⟩));rw [h1]
      exact ⟨l, hR, V i, rfl, by have e : V i = v := by simpa using hv
                                 rw [e];exact hI⟩
    obtain ⟨l,hll,hl2⟩:=Yd each
    refine ⟨_,l,rfl,⟨some a,cap,by rw [hll],by omega,fun h0=>?_⟩,fun r hr=>by
      obtain ⟨j,hj,rfl⟩:=List.getElem_of_mem hr
      exact (hl2 j hj).1⟩
    obtain ⟨b,off,spot⟩:=a;obtain ⟨_,u0,e0,_⟩:=hl2 0 h0;have hspot:spot=none:=World.cell?_spot e0;subst hspot;refine ⟨b,off,rfl,World.block_lt_of_cell? w _ e0,fun j hj=>?_⟩;have:=(hl2 j hj).2
    rwa [zx] at this
theorem y0F (h:DataW.trod enc Tryz.prog w base spare held fuel 51 cs=some x) (hfx:zX 51 x.1):∃ c vt vx vb vr,cs=[.int .i64 c.kind,.int .i64 c.op,vt,.int .i64 c.k,.int .i64 c.v,.int .i64 c.x,.int .i64 c.y,vx,vb,vr]/\CnAt w c vt vx vb vr/\Yq c:=by
  obtain ⟨xs,k,_,he,hl,hxl,hf⟩:=DataW.trod_struct Xd h
  have hff:∀ x∈DataW.weightsEach Tryz.prog [3,3,24,3,3,3,3,27,27,30] (xs.map (·.1)),x<=reachBytes:=fun y hy=>hfx y (by
    rw [he];unfold DataW.weights;rw [Xd]
    exact hy)
  replace hl:cs.length=10:=hl.trans Xe
  match cs,hl with
  | [v0, v1, v2, v3, v4, v5, v6, v7, v8, v9], _ =>
    have g0:=hf 0 _ rfl;have g1:=hf 1 _ rfl;have g2:=hf 2 _ rfl;have g3:=hf 3 _ rfl;have g4:=hf 4 _ rfl;have g5:=hf 5 _ rfl;have g6:=hf 6 _ rfl;have g7:=hf 7 _ rfl;have g8:=hf 8 _ rfl;have g9:=hf 9 _ rfl;simp [Yr,Xf,Xc,y0G] at g0 g1 g2 g3 g4 g5 g6 g7 g8 g9;have hx:∀ i,i<10->∃ y,xs[i]?=some y:=fun i hi=>⟨xs[i]'(by rw [hxl];exact hi),List.getElem?_eq_getElem _⟩
    obtain ⟨y0,e0⟩:=hx 0 (by decide);obtain ⟨y1,e1⟩:=hx 1 (by decide);obtain ⟨y2,e2⟩:=hx 2 (by decide);obtain ⟨y3,e3⟩:=hx 3 (by decide);obtain ⟨y4,e4⟩:=hx 4 (by decide);obtain ⟨y5,e5⟩:=hx 5 (by decide);obtain ⟨y6,e6⟩:=hx 6 (by decide);obtain ⟨y7,e7⟩:=hx 7 (by decide);obtain ⟨y8,e8⟩:=hx 8 (by decide);obtain ⟨y9,e9⟩:=hx 9 (by decide);rw [e0] at g0;rw [e1] at g1;rw [e2] at g2;rw [e3] at g3;rw [e4] at g4;rw [e5] at g5;rw [e6] at g6;rw [e7] at g7;rw [e8] at g8;rw [e9] at g9;obtain ⟨n0,h0,_,_⟩:=DataW.trod_int Tryz.underlying3 g0;obtain ⟨n1,h1,_,_⟩:=DataW.trod_int Tryz.underlying3 g1;have r2:=Y2 Ze Xa g2 (zY hff (j:=2) rfl (by rw [List.getElem?_map,e2];rfl));obtain ⟨u2,l2,h2,A2⟩:=Xg g2;obtain ⟨n3,h3,_,_⟩:=DataW.trod_int Tryz.underlying3 g3
    obtain ⟨n4,h4,_,_⟩:=DataW.trod_int Tryz.underlying3 g4;obtain ⟨n5,h5,_,_⟩:=DataW.trod_int Tryz.underlying3 g5;obtain ⟨n6,h6,_,_⟩:=DataW.trod_int Tryz.underlying3 g6;obtain ⟨u7,l7,h7,A7,C7,R7⟩:=Zb g7 (zY hff (j:=7) rfl (by rw [List.getElem?_map,e7];rfl));obtain ⟨u8,l8,h8,A8,_,R8⟩:=Zb g8 (zY hff (j:=8) rfl (by rw [List.getElem?_map,e8];rfl));have r9:=Y2 Zd y0B g9 (zY hff (j:=9) rfl (by rw [List.getElem?_map,e9];rfl));obtain ⟨u9,l9,h9,A9,R9⟩:=y0E g9 (zY hff (j:=9) rfl (by rw [List.getElem?_map,e9];rfl));simp at h0 h1 h2 h3 h4 h5 h6 h7 h8 h9;subst h0 h1 h2 h3 h4 h5 h6 h7 h8 h9;obtain ⟨t1,t2,ht,_⟩:=A2.form;obtain ⟨s1,s2,hs,_⟩:=A9.form;have q2:=r2 _ _ _ ht;have q9:=r9 _ _ _ hs
    exact ⟨⟨n0,n1,l2,n3,n4,n5,n6,l7,l8,l9⟩,_,_,_,_,rfl,⟨A2,A7,C7,A8,A9⟩,⟨room q2 (by decide),room R7 (by decide),room R8 (by decide),room q9 (by decide),fun r hr=>room (R9 r hr) (by decide)⟩⟩
theorem y0H (h:DataW.trod enc Tryz.prog w base spare held fuel 23 cs=some x) (hf:zX 23 x.1):∃ v l,cs=[v]/\ConsAt w v l/\∀ c∈l,Yq c:=by
  rcases open_slice Zf h with ⟨rfl,_⟩ | ⟨a,len,cap,m,n,D,Pl,rfl,_,hl,hm,hmm,hxe,hx⟩
  · exact ⟨_,[],rfl,⟨none,0,rfl,Nat.zero_le _,fun h=>absurd h (by decide)⟩,fun c hc=>by cases hc⟩
  · have hlm:len<=m:=by rw [hmm];split <;> omega
    rw [hxe] at hf;have each:∀ i,i<len->∃ c:Md.Cn,∃ vt vx vb vr,CnAt w c vt vx vb vr/\Yq c/\∀ j u,[.int .i64 c.kind,.int .i64 c.op,vt,.int .i64 c.k,.int .i64 c.v,.int .i64 c.x,.int .i64 c.y,vx,vb,vr][j]?=some u->w.cell? (a.add (i * 10+j))=some u:=fun i hi=>by
      obtain ⟨cs',h1,h2⟩:=hx i (by omega);rw [Xe] at h1;obtain ⟨c,vt,vx,vb,vr,hc,hC,hR⟩:=y0F h2 (X9 Zf hf (D i) (List.mem_map.2 ⟨i,List.mem_range.2 hi,rfl⟩));subst hc;obtain ⟨_,_,hcell⟩:=World.cells?_some h1;refine ⟨c,vt,vx,vb,vr,hC,hR,fun j u hj=>?_⟩;have:=hcell j (List.getElem?_eq_some_iff.1 hj).1;rw [add_add] at this;rw [this];exact hj
    haveI:Inhabited Md.Cn:=⟨⟨0,0,[],0,0,0,0,[],[],[]⟩⟩
    obtain ⟨l,hll,hl2⟩:=Yd each
    refine ⟨_,l,rfl,⟨some a,cap,by rw [hll],by omega,fun h0=>?_⟩,fun c hc=>by
      obtain ⟨j,hj,rfl⟩:=List.getElem_of_mem hc;obtain ⟨_,_,_,_,_,hR,_⟩:=hl2 j hj
      exact hR⟩
    obtain ⟨b,off,spot⟩:=a;obtain ⟨_,_,_,_,_,_,e0⟩:=hl2 0 h0;have e0':=e0 0 _ rfl;have hspot:spot=none:=World.cell?_spot e0';subst hspot;refine ⟨b,off,rfl,World.block_lt_of_cell? w _ e0',fun j hj=>?_⟩;obtain ⟨vt,vx,vb,vr,hC,_,he⟩:=hl2 j hj;have he':∀ i u,[.int .i64 l[j].kind,.int .i64 l[j].op,vt,.int .i64 l[j].k,.int .i64 l[j].v,.int .i64 l[j].x,.int .i64 l[j].y,vx,vb,vr][i]?=some u->w.cell? ⟨b,off+j * 10+i,none⟩=some u:=fun i u hu=>by
      have:=he i u hu;rw [zx] at this;rw [Nat.add_assoc];exact this
    exact ⟨vt,vx,vb,vr,hC,he' 0 _ rfl,he' 1 _ rfl,he' 2 _ rfl,he' 3 _ rfl,he' 4 _ rfl,he' 5 _ rfl,he' 6 _ rfl,he' 7 _ rfl,he' 8 _ rfl,he' 9 _ rfl⟩
theorem y0I (h:DataW.trod enc Tryz.prog w base spare held fuel 26 cs=some x) (hfx:zX 26 x.1):∃ m vv vc vg,cs=[vv,vc,.bool m.has,vg]/\MoAt w m vv vc vg/\y0z m:=by
  obtain ⟨xs,k,_,he,hl,hxl,hf⟩:=DataW.trod_struct Zg h
  have hff:∀ x∈DataW.weightsEach Tryz.prog [22,23,4,24] (xs.map (·.1)),x<=reachBytes:=fun y hy=>hfx y (by
    rw [he];unfold DataW.weights;rw [Zg]
    exact hy)
  replace hl:cs.length=4:=hl.trans y0J
  match cs,hl with
  | [v0, v1, v2, v3], _ =>
    have g0:=hf 0 _ rfl;have g1:=hf 1 _ rfl;have g2:=hf 2 _ rfl;have g3:=hf 3 _ rfl;simp [y0K,y0L,Xf,y0M] at g0 g1 g2 g3;have hx:∀ i,i<4->∃ y,xs[i]?=some y:=fun i hi=>⟨xs[i]'(by rw [hxl];exact hi),List.getElem?_eq_getElem _⟩
    obtain ⟨y0,e0⟩:=hx 0 (by decide);obtain ⟨y1,e1⟩:=hx 1 (by decide);obtain ⟨y2,e2⟩:=hx 2 (by decide);obtain ⟨y3,e3⟩:=hx 3 (by decide);rw [e0] at g0;rw [e1] at g1;rw [e2] at g2;rw [e3] at g3;have r0:=Y2 Xh y0C g0 (zY hff (j:=0) rfl (by rw [List.getElem?_map,e0];rfl));have r1:=Y2 Zf y0D g1 (zY hff (j:=1) rfl (by rw [List.getElem?_map,e1];rfl));have r3:=Y2 Ze Xa g3 (zY hff (j:=3) rfl (by rw [List.getElem?_map,e3];rfl));obtain ⟨u0,l0,h0,A0,C0⟩:=y0N g0;obtain ⟨u1,l1,h1,A1,R1⟩:=y0H g1 (zY hff (j:=1) rfl (by rw [List.getElem?_map,e1];rfl));obtain ⟨b2,h2,_⟩:=DataW.trod_bool Tryz.underlying4 g2;obtain ⟨u3,l3,h3,A3⟩:=Xg g3;simp at h0 h1 h2 h3;subst h0 h1 h2 h3;obtain ⟨t1,t2,ht,_⟩:=A0.form;obtain ⟨s1,s2,hs,_⟩:=A1.form
    obtain ⟨z1,z2,hz,_⟩:=A3.form;have q0:=r0 _ _ _ ht;have q1:=r1 _ _ _ hs;have q3:=r3 _ _ _ hz;exact ⟨⟨l0,l1,b2,l3⟩,_,_,_,rfl,⟨A0,C0,A1,A3⟩,⟨room q0 (by decide),room q1 (by decide),room q3 (by decide)⟩,R1⟩
end
end Go.Proofs.YtjgghimjnbjlbaaGreatDoor
