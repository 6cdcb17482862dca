/-
  Put together: MdCount, MdCountC, MdFew.
-/
import Derived.Test.YthohnmplbjhjaaaGreatDoorJ20
import Derived.Test.YthohnmplbjhjaaaGreatDoorJ23
namespace Go.Proofs.YthohnmplbjhjaaaGreatDoor
open Go.RowKit
set_option maxHeartbeats 1000000
set_option maxRecDepth 10000
def CountAt (w:World) (P:Nat) (left:Int):Prop:=w.heap[P]?=some (.cells #[.int .i64 left] 53 (0,0))
theorem CountAt.cell {w:World} {P:Nat} {left:Int} (h:CountAt w P left):w.cell? ⟨P,0,none⟩=some (.int .i64 left)/\w.frozen? ⟨P,0,none⟩=false:=by
 unfold CountAt at h
 simp [World.cell?,World.frozen?,h]
theorem CountAt.lt {w:World} {P:Nat} {left:Int} (h:CountAt w P left):P<w.heap.size:=(Array.getElem?_eq_some_iff.1 h).1
theorem CountAt.below {w w':World} {P:Nat} {left:Int} (h:CountAt w P left) (hb:Below w.heap.size w w'):CountAt w' P left:=(hb.block P h.lt).trans h
structure Took (P:Nat) (left:Int) (cost:Int) (w w':World):Prop where
 out:∃ left',CountAt w' P left'/\left'<=20000/\-9223372036854775807<=left'/\(0<=left'->left'+cost<=left)
 grown:w.grownBy w' (some P)
def xO (e:Ending):Prop:=∃ b,e=.returned (.bool b)
theorem YL (w:World) (row:Option Nat):w.grownBy w row:=⟨rfl,rfl,rfl,Nat.le_refl _,fun _ _ _=>rfl⟩
theorem zi {w w1 w2:World} {row:Option Nat} (h:w.grownBy w1 row) (k:w1.grownBy w2 row):w.grownBy w2 row:=
 ⟨k.os.trans h.os,k.tape.trans h.tape,k.output.trans h.output,Nat.le_trans h.size k.size,fun i hi hne=>(k.block i (Nat.lt_of_lt_of_le hi h.size) hne).trans (h.block i hi hne)⟩
theorem Xy {w w1:World} {row:Option Nat} (h:Below w.heap.size w w1):w.grownBy w1 row:=⟨h.os,h.tape,h.output,h.size,fun i hi _=>h.block i hi⟩
theorem xF (P:Nat) (left:Int) (w:World) (h:CountAt w P left):Calls Tryz.prog 10 #[.pointer (some ⟨P,0,none⟩)] w fun e w'=>e=.returned (.bool (decide (0<=left)))/\w'=w:=by
 obtain ⟨h1,_⟩:=h.cell
 clear h
 go_enter Tryz.func10,Tryz.ntmps10
 go_wp2
 go_ret
 exact ⟨rfl,rfl⟩
theorem xf (P:Nat) (left:Int) (n:Nat) (w:World) (h:CountAt w P left) (hl:left<=20000) (hl2:-9223372036854775807<=left) (hn:n<=maxLen):Calls Tryz.prog 22 #[.pointer (some ⟨P,0,none⟩),.int .i64 (n:Int)] w fun e w'=>xO e/\Took P left n w w':=by
 obtain ⟨h1,h2⟩:=h.cell
 have hlt:=h.lt
 unfold maxLen at hn
 by_cases h0:0<=left
 ·have hb:w.heap[P]?=some (.cells #[.int .i64 left] 53 (0,0)):=h
  have HB:Hid (w.heap[P]?=some (.cells #[.int .i64 left] 53 (0,0))):=hb
  have hw:wrap64 (left-(n:Int))=left-(n:Int):=by unfold wrap64;omega
  obtain ⟨V,hV⟩:∃ V,w.setCell ⟨P,0,none⟩ (.int .i64 (left-(n:Int)))=V:=⟨_,rfl⟩
  have hc:CountAt V P (left-n):=by
   rw [<-hV];unfold CountAt
   simp [World.setCell,Array.getElem?_modify,hb]
  have hg:w.grownBy V (some P):=by
   rw [<-hV]
   exact ⟨rfl,rfl,rfl,by simp [World.setCell],fun k _ hne=>Below.heap_setCell w ⟨P,0,none⟩ _ k (fun e=>hne (by rw [e]))⟩
  obtain ⟨h3,h4⟩:=hc.cell
  have HT:Hid (Took P left n w V):=⟨⟨_,hc,by omega,by omega,fun _=>by omega⟩,hg⟩
  clear hb h hc hg
  go_enter Tryz.func22,Tryz.ntmps22
  go_wp2
  go_ret
  exact ⟨⟨_,rfl⟩,HT.out⟩
 ·have HT:Hid (Took P left n w w):=⟨⟨left,h,hl,hl2,fun h=>absurd h h0⟩,YL _ _⟩
  clear h
  go_enter Tryz.func22,Tryz.ntmps22
  go_wp2
  go_ret
  exact ⟨⟨_,rfl⟩,HT.out⟩
theorem Xz (P:Nat) (left:Int) (w:World) (h:CountAt w P left) (hl:left<=20000) (hl2:-9223372036854775807<=left):Calls Tryz.prog 22 #[.pointer (some ⟨P,0,none⟩),.int .i64 1] w fun e w'=>xO e/\Took P left 1 w w':=xf P left 1 w h hl hl2 (by decide)
def zG:List (List Int)->Nat
 | []=>0
 | r :: l=>r.length+1+zG l
theorem y0k (a b:List (List Int)):zG (a++b)=zG a+zG b:=by
 induction a with
 | nil=>simp [zG]
 | cons r a ih=>simp only [List.cons_append,zG,ih];omega
theorem y0l {l:List (List Int)} {k:Nat} (h:k<l.length):zG (l.take (k+1))=zG (l.take k)+(l[k].length+1):=by
 rw [List.take_succ_eq_append_getElem h,y0k];simp [zG]
theorem y0m (P:Nat) (left:Int) (v:Value) (l:List (List Int)) (w:World) (h:CountAt w P left) (hl:left<=20000) (hl2:-9223372036854775807<=left) (hv:∀ w',w.grownBy w' (some P)->RowsAt w' v l) :
    Calls Tryz.prog 42 #[.pointer (some ⟨P,0,none⟩),v] w fun e w'=>e=.returned (.tuple #[])/\Took P left (zG l) w w':=by
  have HV:Hid (∀ w',w.grownBy w' (some P)->RowsAt w' v l):=hv
  obtain ⟨a,cap,rfl,hm⟩:=(hv w (YL _ _)).form
  unfold maxLen at hm
  have H0:Hid (CountAt w P left):=h
  clear hv h
  go_enter Tryz.func42,Tryz.ntmps42
  go_wp2_with fail
  go_loopw [4] (fun iv wr=>∃ (k:Nat) (lf:Int),iv=.int .i64 (k:Int)/\k<=l.length/\Hid (CountAt wr P lf)/\lf<=20000/\-9223372036854775807<=lf/\Hid (0<=lf->lf+zG (l.take k)<=left)/\Hid (w.grownBy wr (some P))) (fun iv _=>l.length-(intOf iv).toNat)
  case atStart=>exact ⟨0,left,rfl,Nat.zero_le _,H0,hl,hl2,(fun _=>by simp [zG]),YL _ _⟩
  case round=>
    obtain ⟨k,lf,rfl,hk,hC,h1,h2,hT,hG⟩:=hrel
    clear H0
    by_cases hlt:k<l.length
    · have hkI:(k:Int)<(l.length:Int):=by omega
      by_cases h0:0<=lf
      · have hd:decide (0<=lf)=true:=by simpa using h0
        obtain ⟨ra,rc,hre,_,hro⟩:=HV.out _ hG.out
        injection hre with e1 e2 e3
        subst e1 e3
        obtain ⟨b0,o0,ha,hb0,hcs⟩:=hro (by omega)
        subst ha
        have HRO:Hid (∀ w',w.grownBy w' (some P)->∃ u,w'.cell? ⟨b0,o0+k,none⟩=some u/\IntsAt w' u l[k]):=fun w' hw'=>by
          obtain ⟨ra',rc',hre',_,hro'⟩:=HV.out _ hw'
          injection hre' with e1' e2' e3'
          obtain ⟨b0',o0',ha',_,hcs'⟩:=hro' (by omega)
          rw [<-e1'] at ha'
          injection ha' with ha'
          injection ha' with h1' h2' _
          subst h1' h2'
          exact hcs' k hlt
        have hnx:=y0l hlt
        have HNX:Hid (zG (l.take (k+1))=zG (l.take k)+(l[k].length+1)):=hnx
        clear hro hcs e2 hnx
        go_wp2_with (first
          | (go_at_call 10;refine (xF P lf _ hC.out).mono ?_;rintro e w' ⟨rfl,hww⟩;rw [hww])
          | (go_at_call 22;refine cZ (Xz P lf _ hC.out h1 h2) ?_;rintro e w1 ⟨⟨bb,rfl⟩,⟨⟨lf1,hC1,h11,h12,hT1⟩,hG1⟩⟩;
             have hg1:=zi hG.out hG1;
             obtain ⟨u,hu,hI⟩:=HRO.out _ hg1;
             obtain ⟨ua,uc,hue,hum⟩:=hI.form;
             subst hue;
             have HC1:Hid (CountAt w1 P lf1):=hC1;
             have HT1:Hid (0<=lf1->lf1+1<=lf):=hT1;
             have HG1:Hid (w.grownBy w1 (some P)):=hg1;
             clear hC1 hT1 hG1 hg1 hI)
          | (go_at_call 22;refine cZ (xf P lf1 (l[k]).length _ HC1.out h11 h12 hum) ?_;rintro e w2 ⟨⟨bc,rfl⟩,⟨⟨lf2,hC2,h21,h22,hT2⟩,hG2⟩⟩;
             have HC2:Hid (CountAt w2 P lf2):=hC2;
             have HT2:Hid (0<=lf2->lf2+((l[k]).length:Int)<=lf1):=hT2;
             have HG2:Hid (w.grownBy w2 (some P)):=zi HG1.out hG2;
             clear hC2 hT2 hG2))
        go_roundw
        case rel=>exact ⟨k+1,lf2,by go_num,by omega,HC2,h21,h22,(fun h=>by have a1:=HT2.out h;have a2:=HT1.out (by omega);have a3:=hT.out (by omega);rw [HNX.out];omega),HG2⟩
        case measure=>simp [intOf];omega
      · have hd:decide (0<=lf)=false:=by simpa using h0
        have HD:Hid (Took P left (zG l) w _):=⟨⟨lf,hC.out,h1,h2,fun h=>absurd h h0⟩,hG.out⟩
        go_wp2_with (go_at_call 10;refine (xF P lf _ hC.out).mono ?_;rintro e w' ⟨rfl,hww⟩;rw [hww])
        go_end0
        exact ⟨rfl,HD.out⟩
    · have hkI:¬ (k:Int)<(l.length:Int):=by omega
      have HD:Hid (Took P left (zG l) w _):=⟨⟨lf,hC.out,h1,h2,fun h=>by have:=hT.out h;rwa [List.take_of_length_le (by omega)] at this⟩,hG.out⟩
      go_wp2_with fail
      go_end0
      exact ⟨rfl,HD.out⟩
end Go.Proofs.YthohnmplbjhjaaaGreatDoor

namespace Go.Proofs.YthohnmplbjhjaaaGreatDoor
open Go.RowKit
def xP (c:Md.Cn):Nat:=1+c.terms.length+c.xs.length+c.table.length+zG c.rows
set_option maxRecDepth 10000 in
set_option maxHeartbeats 1000000 in
theorem XA (P:Nat) (left:Int) (c:Md.Cn) (vt vx vb vr:Value) (w:World) (h:CountAt w P left) (hl:left<=20000) (hl2:-9223372036854775807<=left) (hC:∀ w',w.grownBy w' (some P)->CnAt w' c vt vx vb vr) :
    Calls Tryz.prog 21 #[.pointer (some ⟨P,0,none⟩),yu c vt vx vb vr] w fun e w'=>e=.returned (.tuple #[])/\Took P left (xP c) w w':=by
  have h0:=hC w (YL _ _)
  obtain ⟨ta,tc,rfl,htm⟩:=h0.t.form
  obtain ⟨xa,xc,rfl,hxm⟩:=h0.x.form
  obtain ⟨ba,bc,rfl,hbm⟩:=h0.b.form
  obtain ⟨ra,rc,rfl,hrm⟩:=h0.r.form
  have HC:Hid (∀ w',w.grownBy w' (some P)->CnAt w' c (.slice ta c.terms.length tc) (.slice xa c.xs.length xc) (.slice ba c.table.length bc) (.slice ra c.rows.length rc)):=hC
  have hP:=h.lt
  obtain ⟨W,hW⟩:∃ W,w.alloc (.cells #[.int .i64 c.kind,.int .i64 c.op,.slice ta c.terms.length tc,.int .i64 c.k,.int .i64 c.v,.int .i64 c.x,.int .i64 c.y,.slice xa c.xs.length xc,.slice ba c.table.length bc,.slice ra c.rows.length rc] 61)=W:=⟨_,rfl⟩
  have hbW:Below w.heap.size w W:=by rw [<-hW];exact (Below.refl _ _).alloc (Nat.le_refl _) _
  have hN:W.heap[w.heap.size]?=some (.cells #[.int .i64 c.kind,.int .i64 c.op,.slice ta c.terms.length tc,.int .i64 c.k,.int .i64 c.v,.int .i64 c.x,.int .i64 c.y,.slice xa c.xs.length xc,.slice ba c.table.length bc,.slice ra c.rows.length rc] 61):=by rw [<-hW];exact heap_alloc_new w _
  have hNl:w.heap.size<W.heap.size:=(Array.getElem?_eq_some_iff.1 hN).1
  have HN:Hid (∀ w',W.grownBy w' (some P)->w'.heap[w.heap.size]?=some (.cells #[.int .i64 c.kind,.int .i64 c.op,.slice ta c.terms.length tc,.int .i64 c.k,.int .i64 c.v,.int .i64 c.x,.int .i64 c.y,.slice xa c.xs.length xc,.slice ba c.table.length bc,.slice ra c.rows.length rc] 61)):=fun w' hg=>(hg.block _ hNl (fun e=>by injection e with e;omega)).trans hN
  have HG0:Hid (w.grownBy W (some P)):=Xy hbW
  have HC0:Hid (CountAt W P left):=h.below hbW
  obtain ⟨⟨p0,p1,p2,p3,p4,p5,p6,p7,p8,p9⟩,_⟩:=Ym hN
  clear h0 hC h hbW hN
  unfold yu
  go_enter Tryz.func21,Tryz.ntmps21
  go_wp2_with (first
    | (go_at_call 22;refine cZ (Xz P left _ HC0.out hl hl2) ?_;rintro e w1 ⟨⟨b1,rfl⟩,⟨⟨l1,hC1,h11,h12,hT1⟩,hG1⟩⟩;
       have HC1:Hid (CountAt w1 P l1):=hC1;have HT1:Hid (0<=l1->l1+1<=left):=hT1;have HG1:Hid (W.grownBy w1 (some P)):=hG1;
       clear hC1 hT1 hG1 p0 p1 p2 p3 p4 p5 p6 p7 p8 p9;
       obtain ⟨⟨p0,p1,p2,p3,p4,p5,p6,p7,p8,p9⟩,_⟩:=Ym (HN.out _ HG1.out))
    | (go_at_call 22;refine cZ (xf P l1 c.terms.length _ HC1.out h11 h12 htm) ?_;rintro e w2 ⟨⟨b2,rfl⟩,⟨⟨l2,hC1,h21,h22,hT1⟩,hG1⟩⟩;
       have HC2:Hid (CountAt w2 P l2):=hC1;have HT2:Hid (0<=l2->l2+(c.terms.length:Int)<=l1):=hT1;have HG2:Hid (W.grownBy w2 (some P)):=zi HG1.out hG1;
       clear hC1 hT1 hG1 p0 p1 p2 p3 p4 p5 p6 p7 p8 p9 HC1;
       obtain ⟨⟨p0,p1,p2,p3,p4,p5,p6,p7,p8,p9⟩,_⟩:=Ym (HN.out _ HG2.out))
    | (go_at_call 22;refine cZ (xf P l2 c.xs.length _ HC2.out h21 h22 hxm) ?_;rintro e w3 ⟨⟨b3,rfl⟩,⟨⟨l3,hC1,h31,h32,hT1⟩,hG1⟩⟩;
       have HC3:Hid (CountAt w3 P l3):=hC1;have HT3:Hid (0<=l3->l3+(c.xs.length:Int)<=l2):=hT1;have HG3:Hid (W.grownBy w3 (some P)):=zi HG2.out hG1;
       clear hC1 hT1 hG1 p0 p1 p2 p3 p4 p5 p6 p7 p8 p9 HC2;
       obtain ⟨⟨p0,p1,p2,p3,p4,p5,p6,p7,p8,p9⟩,_⟩:=Ym (HN.out _ HG3.out))
    | (go_at_call 22;refine cZ (xf P l3 c.table.length _ HC3.out h31 h32 hbm) ?_;rintro e w4 ⟨⟨b4,rfl⟩,⟨⟨l4,hC1,h41,h42,hT1⟩,hG1⟩⟩;
       have HC4:Hid (CountAt w4 P l4):=hC1;have HT4:Hid (0<=l4->l4+(c.table.length:Int)<=l3):=hT1;have HG4:Hid (W.grownBy w4 (some P)):=zi HG3.out hG1;
       clear hC1 hT1 hG1 p0 p1 p2 p3 p4 p5 p6 p7 p8 p9 HC3;
       obtain ⟨⟨p0,p1,p2,p3,p4,p5,p6,p7,p8,p9⟩,_⟩:=Ym (HN.out _ HG4.out))
    | (go_at_call 42;refine cZ (y0m P l4 _ c.rows _ HC4.out h41 h42 (fun w' hg=>(HC.out w' (zi HG0.out (zi HG4.out hg))).r)) ?_;rintro e w5 ⟨rfl,⟨⟨l5,hC1,h51,h52,hT1⟩,hG1⟩⟩;
       have HC5:Hid (CountAt w5 P l5):=hC1;have HT5:Hid (0<=l5->l5+(zG c.rows:Int)<=l4):=hT1;have HG5:Hid (W.grownBy w5 (some P)):=zi HG4.out hG1;
       clear hC1 hT1 hG1 p0 p1 p2 p3 p4 p5 p6 p7 p8 p9 HC4))
  go_end0
  refine ⟨rfl,⟨⟨l5,HC5.out,h51,h52,fun h=>?_⟩,zi HG0.out HG5.out⟩⟩
  have a5:=HT5.out h
  have a4:=HT4.out (by omega)
  have a3:=HT3.out (by omega)
  have a2:=HT2.out (by omega)
  have a1:=HT1.out (by omega)
  unfold xP
  omega
end Go.Proofs.YthohnmplbjhjaaaGreatDoor

namespace Go.Proofs.YthohnmplbjhjaaaGreatDoor
open Go.RowKit
set_option maxHeartbeats 400000 in
theorem y10 (n:Int) (w:World):Calls Tryz.prog 8 #[.int .i64 n] w fun e w'=>e=.returned (.pointer (some ⟨w.heap.size,0,none⟩))/\w'=w.alloc (.cells #[.int .i64 n] 53):=by
 go_enter Tryz.func8,Tryz.ntmps8
 go_wp2
 go_ret
 exact ⟨rfl,rfl⟩
theorem XJ {w W w':World} {P:Nat} (hW:Below w.heap.size w W) (hg:W.grownBy w' (some P)) (hP:w.heap.size<=P):Below w.heap.size w w':=
 ⟨hg.os.trans hW.os,hg.tape.trans hW.tape,hg.output.trans hW.output,Nat.le_trans hW.size hg.size,fun k hk=>(hg.block k (Nat.lt_of_lt_of_le hk hW.size) (fun e=>by injection e with e;omega)).trans (hW.block k hk)⟩
end Go.Proofs.YthohnmplbjhjaaaGreatDoor
