import Derived.Test.YtpcijhecaedkpaaGreatDoorJ41
import Derived.Deep.Slices
import Derived.ChangeSame
import Derived.ChangeMaps
import Derived.WideShapes
import Derived.OpenShut
namespace Go.Proofs.YtpcijhecaedkpaaGreatDoor
open Go.ChangeShapes Go.WideShapes Go.ChangeAt Go.RowKit Go.Deep
set_option maxRecDepth 100000
set_option maxHeartbeats 8000000
theorem ou42:Tryz.prog.underlying 29=some (.slice 3):=by kernel_rfl
theorem ou43:Tryz.prog.underlying 22=some (.slice 9):=by kernel_rfl
theorem ou38:Tryz.prog.underlying 46=some (.slice 106):=by kernel_rfl
theorem ou39:Tryz.prog.underlying 47=some (.slice 160):=by kernel_rfl
theorem ou22:Tryz.prog.underlying 61=some (.slice 51):=by kernel_rfl
theorem ou84 : Tryz.prog.underlying 106 = some (.struct #[⟨"Kind", 3, 0, false, "", "", 0⟩, ⟨"N", 9, 1, false, "", "", 8⟩, ⟨"L", 3, 2, false, "", "", 24⟩]) := by kernel_rfl
theorem ou82 : Tryz.prog.underlying 160 = some (.struct #[⟨"C", 9, 0, false, "", "", 0⟩, ⟨"L", 3, 1, false, "", "", 16⟩]) := by kernel_rfl
theorem ou41 : Tryz.prog.underlying 49 = some (.struct #[⟨"Pieces", 47, 0, false, "", "", 0⟩, ⟨"Degree", 9, 1, false, "", "", 24⟩]) := by kernel_rfl
theorem ou45 : Tryz.prog.underlying 51 = some (.struct #[⟨"Kind", 3, 0, false, "", "", 0⟩, ⟨"N", 9, 1, false, "", "", 8⟩, ⟨"Ops", 46, 2, false, "", "", 24⟩, ⟨"Row", 49, 3, false, "", "", 48⟩, ⟨"Lits", 29, 5, false, "", "", 88⟩, ⟨"Ids", 22, 6, false, "", "", 112⟩, ⟨"Ends", 3, 7, false, "", "", 136⟩, ⟨"Low", 9, 8, false, "", "", 144⟩, ⟨"High", 9, 9, false, "", "", 160⟩]) := by kernel_rfl
theorem oc3:Tryz.prog.cellsOf 3=1:=by kernel_rfl
theorem oc9:Tryz.prog.cellsOf 9=1:=by kernel_rfl
theorem oc38:Tryz.prog.cellsOf 46=1:=by kernel_rfl
theorem oc39:Tryz.prog.cellsOf 47=1:=by kernel_rfl
theorem oc42:Tryz.prog.cellsOf 29=1:=by kernel_rfl
theorem oc43:Tryz.prog.cellsOf 22=1:=by kernel_rfl
theorem oc41:Tryz.prog.cellsOf 49=2:=by kernel_rfl
theorem oc82:Tryz.prog.cellsOf 160=2:=by kernel_rfl
theorem oc84:Tryz.prog.cellsOf 106=3:=by kernel_rfl
theorem oc45:Tryz.prog.cellsOf 51=10:=by kernel_rfl
theorem list_of {α:Type} {n:Nat} {p:Nat->α->Prop} (h:∀ i,i<n->∃ a,p i a):∃ l:List α,l.length=n/\∀ i (hi:i<l.length),p i l[i]:=by
  induction n with
  | zero=>exact ⟨[],rfl,fun i hi=>absurd hi (Nat.not_lt_zero _)⟩
  | succ n ih =>
    obtain ⟨l,hl,hp⟩:=ih fun i hi=>h i (Nat.lt_succ_of_lt hi)
    obtain ⟨a,ha⟩:=h n (Nat.lt_succ_self n);refine ⟨l++[a],by rw [List.length_append,hl];rfl,fun i hi=>?_⟩;rw [List.getElem_append]
    split
    · exact hp i _
    · have:i=n:=by rw [List.length_append,hl] at hi;simp only [List.length_singleton] at hi;omega
      subst this;simpa using ha
def I64 (n:Int):Prop:=-9223372036854775808<=n/\n<=9223372036854775807
section
variable {H : Type} {enc : TypeId × Value → H} {w : World} {base : Nat} {spare : Nat → Bool} {held : Bool} {fuel : Nat} {cs : List Value} {x : DataW H × List MemPlace}
theorem int_o (h:DataW.trod enc Tryz.prog w base spare held fuel 3 cs=some x):∃ n,cs=[.int .i64 n]/\I64 n:=by
  obtain ⟨n,h1,_,h3⟩:=DataW.trod_int Tryz.underlying3 h;exact ⟨n,h1,bounds_i64 h3⟩
theorem text_o (h:DataW.trod enc Tryz.prog w base spare held fuel 9 cs=some x):∃ l:List UInt8,cs=[.string (txtOf l)]/\l.length<=maxLen:=by
  obtain ⟨s,h1,_,h3⟩:=DataW.trod_string Tryz.underlying9 h;exact ⟨s.data.toList,by rw [txt_back];exact h1,by rw [<-Lib.size_eq];exact h3⟩
theorem nil_rd (w:World) (xs:List Value):RdAt w (.slice none 0 0) 0 xs:=⟨none,0,rfl,by omega,fun h=>absurd h (Nat.lt_irrefl _)⟩
theorem ints_o (h:DataW.trod enc Tryz.prog w base spare held fuel 29 cs=some x):∃ (v:Value) (l:List Int),cs=[v]/\RdAt w v l.length (l.map (.int .i64))/\(∀ z∈l,I64 z)/\l.length<=maxLen:=by
  rcases open_slice1 ou42 oc3 h with ⟨rfl,_⟩ | ⟨a,len,cap,m,n,V,D,Pl,rfl,_,hl,hm,hmm,_,hx⟩
  · exact ⟨_,[],rfl,nil_rd _ _,fun z hz=>absurd hz List.not_mem_nil,Nat.zero_le _⟩
  · have hlm:len<=m:=by rw [hmm];split <;> omega
    have each:∀ i,i<len->∃ z:Int,w.cell? (a.add i)=some (.int .i64 z)/\I64 z:=fun i hi=>by
      obtain ⟨h1,h2⟩:=hx i (by omega);obtain ⟨z,hz,hw⟩:=int_o h2;rw [h1];exact ⟨z,congrArg some (by simpa using hz),hw⟩
    obtain ⟨l,hll,hl2⟩:=list_of each;have hcm:l.length<=maxLen:=by omega
    refine ⟨_,l,rfl,⟨some a,cap,by rw [hll],by unfold maxLen at hcm;omega,fun h0=>?_⟩,fun z hz=>by obtain ⟨j,hj,rfl⟩:=List.mem_iff_getElem.1 hz;exact (hl2 j hj).2,hcm⟩;obtain ⟨b,off,spot⟩:=a;have e0:=(hl2 0 h0).1;have hspot:spot=none:=World.cell?_spot e0;subst hspot;refine ⟨b,off,rfl,World.block_lt_of_cell? w _ e0,fun j u hu=>?_⟩;obtain ⟨hj,he⟩:=List.getElem?_eq_some_iff.1 hu;have:=(hl2 j (by simpa using hj)).1;rw [addr_noneR] at this;rw [this,<-he,List.getElem_map]
theorem texts_o (h:DataW.trod enc Tryz.prog w base spare held fuel 22 cs=some x):∃ (v:Value) (l:List (List UInt8)),cs=[v]/\RdAt w v l.length (l.map fun x=>.string (txtOf x))/\(∀ z∈l,z.length<=maxLen):=by
  rcases open_slice1 ou43 oc9 h with ⟨rfl,_⟩ | ⟨a,len,cap,m,n,V,D,Pl,rfl,_,hl,hm,hmm,_,hx⟩
  · exact ⟨_,[],rfl,nil_rd _ _,fun z hz=>absurd hz List.not_mem_nil⟩
  · have hlm:len<=m:=by rw [hmm];split <;> omega
    have each:∀ i,i<len->∃ z:List UInt8,w.cell? (a.add i)=some (.string (txtOf z))/\z.length<=maxLen:=fun i hi=>by
      obtain ⟨h1,h2⟩:=hx i (by omega);obtain ⟨z,hz,hw⟩:=text_o h2;rw [h1];exact ⟨z,congrArg some (by simpa using hz),hw⟩
    obtain ⟨l,hll,hl2⟩:=list_of each;have hcm:l.length<=maxLen:=by omega
    refine ⟨_,l,rfl,⟨some a,cap,by rw [hll],by unfold maxLen at hcm;omega,fun h0=>?_⟩,fun z hz=>by obtain ⟨j,hj,rfl⟩:=List.mem_iff_getElem.1 hz;exact (hl2 j hj).2⟩;obtain ⟨b,off,spot⟩:=a;have e0:=(hl2 0 h0).1;have hspot:spot=none:=World.cell?_spot e0;subst hspot;refine ⟨b,off,rfl,World.block_lt_of_cell? w _ e0,fun j u hu=>?_⟩;obtain ⟨hj,he⟩:=List.getElem?_eq_some_iff.1 hu;have:=(hl2 j (by simpa using hj)).1;rw [addr_noneR] at this;rw [this,<-he,List.getElem_map]
theorem op_o (h:DataW.trod enc Tryz.prog w base spare held fuel 106 cs=some x):∃ o:OpL,cs=opC o/\o.2.1.length<=maxLen/\I64 o.2.2:=by
  obtain ⟨xs,k,_,_,hl,hxl,hf⟩:=DataW.trod_struct ou84 h
  replace hl:cs.length=3:=hl.trans oc84
  match cs,hl with
  | [v0, v1, v2], _ =>
    have g0:=hf 0 _ rfl;have g1:=hf 1 _ rfl;have g2:=hf 2 _ rfl;simp [oc3,oc9] at g0 g1 g2;have hx:∀ i,i<3->∃ y,xs[i]?=some y:=fun i hi=>⟨xs[i]'(by rw [hxl];exact hi),List.getElem?_eq_getElem _⟩
    obtain ⟨y0,e0⟩:=hx 0 (by decide);obtain ⟨y1,e1⟩:=hx 1 (by decide);obtain ⟨y2,e2⟩:=hx 2 (by decide);rw [e0] at g0;rw [e1] at g1;rw [e2] at g2;obtain ⟨n0,h0,_⟩:=int_o g0;obtain ⟨n1,h1,b1⟩:=text_o g1;obtain ⟨n2,h2,b2⟩:=int_o g2;simp at h0 h1 h2;subst h0 h1 h2;exact ⟨(n0,n1,n2),rfl,b1,b2⟩
theorem pc_o (h:DataW.trod enc Tryz.prog w base spare held fuel 160 cs=some x):∃ o:PcL,cs=pcC o/\o.1.length<=maxLen/\I64 o.2:=by
  obtain ⟨xs,k,_,_,hl,hxl,hf⟩:=DataW.trod_struct ou82 h
  replace hl:cs.length=2:=hl.trans oc82
  match cs,hl with
  | [v0, v1], _ =>
    have g0:=hf 0 _ rfl;have g1:=hf 1 _ rfl;simp [oc3,oc9] at g0 g1;have hx:∀ i,i<2->∃ y,xs[i]?=some y:=fun i hi=>⟨xs[i]'(by rw [hxl];exact hi),List.getElem?_eq_getElem _⟩
    obtain ⟨y0,e0⟩:=hx 0 (by decide);obtain ⟨y1,e1⟩:=hx 1 (by decide);rw [e0] at g0;rw [e1] at g1;obtain ⟨n0,h0,b0⟩:=text_o g0;obtain ⟨n1,h1,b1⟩:=int_o g1;simp at h0 h1;subst h0 h1;exact ⟨(n0,n1),rfl,b0,b1⟩
theorem cells_flat {α:Type} (f:α->List Value) (k:Nat) (hk:∀ a,(f a).length=k):∀ (l:List α) (j:Nat) (u:Value),(l.flatMap f)[j]?=some u->∃ (hi:j / k<l.length),(f l[j / k])[j % k]?=some u:=by
  intro l
  induction l with
  | nil=>intro j u h;simp at h
  | cons a l ih =>
    intro j u h;have e:(a :: l).flatMap f=f a++l.flatMap f:=by simp
    rw [e] at h
    by_cases hj:j<k
    · rw [List.getElem?_append_left (by rw [hk];exact hj)] at h
      refine ⟨by rw [Nat.div_eq_of_lt hj];simp,?_⟩;simp only [Nat.div_eq_of_lt hj,Nat.mod_eq_of_lt hj,List.getElem_cons_zero];exact h
    · have hk0:0<k:=by
        refine Nat.pos_of_ne_zero fun h0=>?_
        have hf:∀ a,f a=[]:=fun a=>List.length_eq_zero_iff.1 ((hk a).trans h0)
        have:l.flatMap f=[]:=by rw [List.flatMap_eq_nil_iff];exact fun a _=>hf a
        rw [hf,this] at h;simp at h
      rw [List.getElem?_append_right (by rw [hk];omega),hk] at h;obtain ⟨hi,hg⟩:=ih _ u h;have e1:j / k=(j-k) / k+1:=by rw [Nat.div_eq_sub_div hk0 (by omega)]
      have e2:j % k=(j-k) % k:=by rw [Nat.mod_eq_sub_mod (by omega)]
      refine ⟨by rw [e1,List.length_cons];omega,?_⟩;simp only [e1,e2,List.getElem_cons_succ];exact hg
theorem ops_o (h:DataW.trod enc Tryz.prog w base spare held fuel 46 cs=some x):∃ (v:Value) (l:List OpL),cs=[v]/\RdAt w v l.length (opsC l)/\(∀ o∈l,o.2.1.length<=maxLen)/\∀ o∈l,I64 o.2.2:=by
  rcases open_slice ou38 h with ⟨rfl,_⟩ | ⟨a,len,cap,m,n,D,Pl,rfl,_,hl,hm,hmm,_,hx⟩
  · exact ⟨_,[],rfl,nil_rd _ _,fun o ho=>absurd ho List.not_mem_nil,fun o ho=>absurd ho List.not_mem_nil⟩
  · have hlm:len<=m:=by rw [hmm];split <;> omega
    have each:∀ i,i<len->∃ z:OpL,(∀ j u,(opC z)[j]?=some u->w.cell? (a.add (i*3+j))=some u)/\z.2.1.length<=maxLen/\I64 z.2.2:=fun i hi=>by
      obtain ⟨cs',h1,h2⟩:=hx i (by omega);rw [oc84] at h1;obtain ⟨z,hz,b1,b2⟩:=op_o h2;subst hz;obtain ⟨_,_,hcell⟩:=World.cells?_some h1;refine ⟨z,fun j u hu=>?_,b1,b2⟩;obtain ⟨hj,_⟩:=List.getElem?_eq_some_iff.1 hu;have:=hcell j hj;rw [add_add] at this;rw [this,hu]
    obtain ⟨l,hll,hl2⟩:=list_of each;have hcm:l.length<=maxLen:=by omega
    refine ⟨_,l,rfl,⟨some a,cap,by rw [hll],by unfold maxLen at hcm;omega,fun h0=>?_⟩,?_,?_⟩
    · obtain ⟨b,off,spot⟩:=a
      have e0:=(hl2 0 h0).1 0 _ rfl;have hspot:spot=none:=World.cell?_spot e0;subst hspot;refine ⟨b,off,rfl,World.block_lt_of_cell? w _ e0,fun j u hu=>?_⟩;obtain ⟨hi,hg⟩:=cells_flat opC 3 (fun _=>rfl) l j u hu;have:=(hl2 _ hi).1 _ u hg;rw [addr_noneR] at this;have ej:j / 3*3+j % 3=j:=by omega
      rw [ej] at this;exact this
    · intro z hz
      obtain ⟨j,hj,rfl⟩:=List.mem_iff_getElem.1 hz;exact (hl2 j hj).2.1
    · intro z hz
      obtain ⟨j,hj,rfl⟩:=List.mem_iff_getElem.1 hz;exact (hl2 j hj).2.2
theorem pcs_o (h:DataW.trod enc Tryz.prog w base spare held fuel 47 cs=some x):∃ (v:Value) (l:List PcL),cs=[v]/\RdAt w v l.length (pcsC l)/\(∀ o∈l,o.1.length<=maxLen)/\∀ o∈l,I64 o.2:=by
  rcases open_slice ou39 h with ⟨rfl,_⟩ | ⟨a,len,cap,m,n,D,Pl,rfl,_,hl,hm,hmm,_,hx⟩
  · exact ⟨_,[],rfl,nil_rd _ _,fun o ho=>absurd ho List.not_mem_nil,fun o ho=>absurd ho List.not_mem_nil⟩
  · have hlm:len<=m:=by rw [hmm];split <;> omega
    have each:∀ i,i<len->∃ z:PcL,(∀ j u,(pcC z)[j]?=some u->w.cell? (a.add (i*2+j))=some u)/\z.1.length<=maxLen/\I64 z.2:=fun i hi=>by
      obtain ⟨cs',h1,h2⟩:=hx i (by omega);rw [oc82] at h1;obtain ⟨z,hz,b1,b2⟩:=pc_o h2;subst hz;obtain ⟨_,_,hcell⟩:=World.cells?_some h1;refine ⟨z,fun j u hu=>?_,b1,b2⟩;obtain ⟨hj,_⟩:=List.getElem?_eq_some_iff.1 hu;have:=hcell j hj;rw [add_add] at this;rw [this,hu]
    obtain ⟨l,hll,hl2⟩:=list_of each;have hcm:l.length<=maxLen:=by omega
    refine ⟨_,l,rfl,⟨some a,cap,by rw [hll],by unfold maxLen at hcm;omega,fun h0=>?_⟩,?_,?_⟩
    · obtain ⟨b,off,spot⟩:=a
      have e0:=(hl2 0 h0).1 0 _ rfl;have hspot:spot=none:=World.cell?_spot e0;subst hspot;refine ⟨b,off,rfl,World.block_lt_of_cell? w _ e0,fun j u hu=>?_⟩;obtain ⟨hi,hg⟩:=cells_flat pcC 2 (fun _=>rfl) l j u hu;have:=(hl2 _ hi).1 _ u hg;rw [addr_noneR] at this;have ej:j / 2*2+j % 2=j:=by omega
      rw [ej] at this;exact this
    · intro z hz
      obtain ⟨j,hj,rfl⟩:=List.mem_iff_getElem.1 hz;exact (hl2 j hj).2.1
    · intro z hz
      obtain ⟨j,hj,rfl⟩:=List.mem_iff_getElem.1 hz;exact (hl2 j hj).2.2
theorem row_o (h:DataW.trod enc Tryz.prog w base spare held fuel 49 cs=some x):∃ (v:Value) (l:List PcL) (deg:List UInt8),cs=[v,.string (txtOf deg)]/\RdAt w v l.length (pcsC l)/\(∀ o∈l,o.1.length<=maxLen)/\(∀ o∈l,I64 o.2)/\deg.length<=maxLen:=by
  obtain ⟨xs,k,_,_,hl,hxl,hf⟩:=DataW.trod_struct ou41 h
  replace hl:cs.length=2:=hl.trans oc41
  match cs,hl with
  | [v0, v1], _ =>
    have g0:=hf 0 _ rfl;have g1:=hf 1 _ rfl;simp [oc39,oc9] at g0 g1;have hx:∀ i,i<2->∃ y,xs[i]?=some y:=fun i hi=>⟨xs[i]'(by rw [hxl];exact hi),List.getElem?_eq_getElem _⟩
    obtain ⟨y0,e0⟩:=hx 0 (by decide);obtain ⟨y1,e1⟩:=hx 1 (by decide);rw [e0] at g0;rw [e1] at g1;obtain ⟨v,l,h0,b0,b1,b2⟩:=pcs_o g0;obtain ⟨n1,h1,b3⟩:=text_o g1;simp at h0 h1;subst h0 h1;exact ⟨v0,l,n1,rfl,b0,b1,b2,b3⟩
theorem step_o (h:DataW.trod enc Tryz.prog w base spare held fuel 51 cs=some x):∃ (d:SL) (vo vp vl vi:Value),cs=(slC d vo vp vl vi).toList/\SlR w d vo vp vl vi/\SlI d/\SlM d:=by
  obtain ⟨xs,k,_,_,hl,hxl,hf⟩:=DataW.trod_struct ou45 h
  replace hl:cs.length=10:=hl.trans oc45
  match cs,hl with
  | [v0, v1, v2, v3, v4, v5, v6, v7, v8, v9], _ =>
    have g0:=hf 0 _ rfl;have g1:=hf 1 _ rfl;have g2:=hf 2 _ rfl;have g3:=hf 3 _ rfl;have g4:=hf 4 _ rfl;have g5:=hf 5 _ rfl;have g6:=hf 6 _ rfl;have g7:=hf 7 _ rfl;have g8:=hf 8 _ rfl;simp [oc3,oc9,oc38,oc41,oc42,oc43] at g0 g1 g2 g3 g4 g5 g6 g7 g8;have hx:∀ i,i<9->∃ y,xs[i]?=some y:=fun i hi=>⟨xs[i]'(by rw [hxl];exact hi),List.getElem?_eq_getElem _⟩
    obtain ⟨y0,e0⟩:=hx 0 (by decide);obtain ⟨y1,e1⟩:=hx 1 (by decide);obtain ⟨y2,e2⟩:=hx 2 (by decide);obtain ⟨y3,e3⟩:=hx 3 (by decide);obtain ⟨y4,e4⟩:=hx 4 (by decide);obtain ⟨y5,e5⟩:=hx 5 (by decide);obtain ⟨y6,e6⟩:=hx 6 (by decide);obtain ⟨y7,e7⟩:=hx 7 (by decide);obtain ⟨y8,e8⟩:=hx 8 (by decide);rw [e0] at g0;rw [e1] at g1;rw [e2] at g2;rw [e3] at g3;rw [e4] at g4;rw [e5] at g5;rw [e6] at g6;rw [e7] at g7;rw [e8] at g8;obtain ⟨n0,h0,_⟩:=int_o g0;obtain ⟨n1,h1,b1⟩:=text_o g1;obtain ⟨u2,l2,h2,a2,b2,c2⟩:=ops_o g2;obtain ⟨u3,l3,dg,h3,a3,b3,c3,d3⟩:=row_o g3;obtain ⟨u4,l4,h4,a4,b4,c4⟩:=ints_o g4;obtain ⟨u5,l5,h5,a5,b5⟩:=texts_o g5;obtain ⟨n6,h6,_⟩:=int_o g6;obtain ⟨n7,h7,b7⟩:=text_o g7;obtain ⟨n8,h8,b8⟩:=text_o g8;simp at h0 h1 h2 h3 h4 h5 h6 h7 h8;obtain ⟨h3a,h3b⟩:=h3
    subst h0 h1 h2 h3a h3b h4 h5 h6 h7 h8;refine ⟨⟨n0,n1,l2,l3,dg,l4,l5,n6,n7,n8⟩,v2,v3,v5,v6,rfl,⟨a2,a3,a4,a5⟩,⟨c3,b4,c2⟩,⟨b1,b7,b8,d3,?_,?_,b5,c4⟩⟩
    · intro x hx
      obtain ⟨o,ho,rfl⟩:=List.mem_map.1 hx;exact b2 o ho
    · intro x hx
      obtain ⟨o,ho,rfl⟩:=List.mem_map.1 hx;exact b3 o ho
theorem steps_o (h:DataW.trod enc Tryz.prog w base spare held fuel 61 cs=some x):∃ (v:Value) (ds:List SL),cs=[v]/\StsR w v ds/\(∀ d∈ds,SlI d)/\∀ d∈ds,SlM d:=by
  rcases open_slice ou22 h with ⟨rfl,_⟩ | ⟨a,len,cap,m,n,D,Pl,rfl,_,hl,hm,hmm,_,hx⟩
  · exact ⟨_,[],rfl,⟨none,0,rfl,by simp,fun i hi=>absurd hi (Nat.not_lt_zero _)⟩,fun o ho=>absurd ho List.not_mem_nil,fun o ho=>absurd ho List.not_mem_nil⟩
  · have hlm:len<=m:=by rw [hmm];split <;> omega
    have each:∀ i,i<len->∃ d:SL,∃ vo vp vl vi,(∀ j,j<10->w.cell? (a.add (i*10+j))=(slC d vo vp vl vi)[j]?)/\SlR w d vo vp vl vi/\SlI d/\SlM d:=fun i hi=>by
      obtain ⟨cs',h1,h2⟩:=hx i (by omega);rw [oc45] at h1;obtain ⟨d,vo,vp,vl,vi,hz,b1,b2,b3⟩:=step_o h2;subst hz;obtain ⟨_,_,hcell⟩:=World.cells?_some h1;refine ⟨d,vo,vp,vl,vi,fun j hj=>?_,b1,b2,b3⟩;have:=hcell j hj;rw [add_add] at this;rw [this,Array.getElem?_toList]
    obtain ⟨l,hll,hl2⟩:=list_of each;have hcm:l.length<=maxLen:=by omega
    refine ⟨_,l,rfl,⟨some a,cap,by rw [hll],by unfold maxLen at hcm;omega,fun i hi=>?_⟩,?_,?_⟩
    · obtain ⟨vo,vp,vl,vi,e1,e2,_,_⟩:=hl2 i hi
      obtain ⟨b,off,spot⟩:=a;obtain ⟨vo0,vp0,vl0,vi0,z1,_,_,_⟩:=hl2 0 (by omega);have e0':w.cell? ((⟨b,off,spot⟩:Addr).add 0)=some (.int .i64 l[0].k):=z1 0 (by omega);have hspot:spot=none:=World.cell?_spot e0';subst hspot;have hbl:b<w.heap.size:=World.block_lt_of_cell? w _ e0';refine ⟨b,off,vo,vp,vl,vi,rfl,hbl,e2,fun j hj=>?_⟩;have:=e1 j hj;rw [addr_noneR] at this;rw [Nat.add_assoc];exact this
    · intro z hz
      obtain ⟨j,hj,rfl⟩:=List.mem_iff_getElem.1 hz;obtain ⟨_,_,_,_,_,_,h1,_⟩:=hl2 j hj;exact h1
    · intro z hz
      obtain ⟨j,hj,rfl⟩:=List.mem_iff_getElem.1 hz;obtain ⟨_,_,_,_,_,_,_,h1⟩:=hl2 j hj;exact h1
end
end Go.Proofs.YtpcijhecaedkpaaGreatDoor
