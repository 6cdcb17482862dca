import Derived.Test.YthohnmplbjhjaaaGreatDoorProg
import Derived.WalkKit
import Derived.WalkSpells
import Derived.WalkLawsBesides
import Derived.BigQuiet
import Derived.Deep.QuietTactic
import Derived.Lib.Builder
import Derived.Lib.UnsafeStr
import Derived.Laws.AppendOwn
import Derived.Laws.Externs
import Derived.Laws.IdiomStrings
import Derived.Shelf.Strings.Builder1
namespace Go.Proofs.YthohnmplbjhjaaaGreatDoor
open Go.RowKit
set_option maxHeartbeats 2000000
set_option maxRecDepth 100000
open Go.Lib (byteCells strCells)
structure Kq (B:Nat) (w w':World):Prop where
 low:Below B w w'
 other:∀ (k:Nat) (c:Array Value) (ty:TypeId) (fz:Nat × Nat),w.heap[k]?=some (.cells c ty fz)->ty≠5->ty≠71->w'.heap[k]?=some (.cells c ty fz)
theorem Kq.refl (B:Nat) (w:World):Kq B w w:=⟨Below.refl _ _,fun _ _ _ _ h _ _=>h⟩
theorem Kq.trans {B:Nat} {a b c:World} (h:Kq B a b) (k:Kq B b c):Kq B a c:=⟨h.low.trans k.low,fun j x t z e h5 h8=>k.other j x t z (h.other j x t z e h5 h8) h5 h8⟩
theorem Kq.of_below {B:Nat} {w w':World} (h:Below w.heap.size w w') (hB:B<=w.heap.size):Kq B w w':=
 ⟨h.mono hB,fun k _ _ _ e _ _=>(h.block k (Array.getElem?_eq_some_iff.1 e).1).trans e⟩
def yf (B b:Nat) (va:Value) (l:List UInt8) (w:World):Prop:=
 B<=b/\∃ q v,w.heap[b]?=some (.cells #[va,.pointer q,v] 71 (0,0))/\(q=none∨q=some ⟨b,1,none⟩)/\w.ownsRow B 5 1 v l.length (byteCells l)
theorem YO {B b:Nat} {va v:Value} {q:Option Addr} {n:Nat} {xs:List Value} {w:World} (hb:w.heap[b]?=some (.cells #[va,.pointer q,v] 71 (0,0))) (hr:w.ownsRow B 5 1 v n xs):v.ownBlock≠some b:=by
 intro h
 rcases hr.2 with ⟨rfl,_⟩ | ⟨g,cap,cur,rfl,_,h2,_⟩
 ·cases h
 ·injection h with h
  subst h
  rw [hb] at h2
  cases h2
theorem Ze {B b:Nat} {va:Value} {l:List UInt8} {w w':World} (h:yf B b va l w) (hb:Below w.heap.size w w'):yf B b va l w':=by
 obtain ⟨h0,q,v,h1,h2,h3⟩:=h
 refine ⟨h0,q,v,(hb.block b (Array.getElem?_eq_some_iff.1 h1).1).trans h1,h2,?_⟩
 rcases h3.2 with ⟨hv,hn⟩ | ⟨g,cap,cur,hv,hg,h4,h5,h6⟩
 ·exact ⟨h3.1,.inl ⟨hv,hn⟩⟩
 ·exact ⟨h3.1,.inr ⟨g,cap,cur,hv,hg,(hb.block g (Array.getElem?_eq_some_iff.1 h4).1).trans h4,h5,h6⟩⟩
theorem Qr (b:Nat) (va v:Value) (q:Option Addr) (w:World) (hb:w.heap[b]?=some (.cells #[va,.pointer q,v] 71 (0,0))) (hq:q=none∨q=some ⟨b,1,none⟩) :
  Calls Tryz.prog 101 #[.pointer (some ⟨b,1,none⟩)] w fun e w'=>e=.returned (.tuple #[])/\w'.heap[b]?=some (.cells #[va,.pointer (some ⟨b,1,none⟩),v] 71 (0,0))/\w.grownBy w' (some b):=by
 have h1:w.cell? ⟨b,1,none⟩=some (.pointer q):=by rw [Lib.cell_of_heap hb];rfl
 have hf:w.frozen? ⟨b,1,none⟩=false:=Lib.frozen_of_heap hb 1
 have hsz:(Tryz.prog.info? 69).map (·.size)=some 2:=by kernel_rfl
 obtain ⟨j,hj,hjs⟩:=Option.map_eq_some_iff.1 hsz
 have hsh:w.shape? b=some (71,3):=by simp [World.shape?,hb]
 have hl:Hid (b<w.heap.size):=(Array.getElem?_eq_some_iff.1 hb).1
 have HB:Hid (w.heap[b]?=some (.cells #[va,.pointer q,v] 71 (0,0))):=hb
 have hlies:liesAt Tryz.prog Tryz.prog.depth 71 (3 / Tryz.prog.cellsOf 71) 1 69 1=true:=by kernel_rfl
 clear hb
 rcases hq with rfl | rfl
 ·go_enter Tryz.func101,Tryz.ntmps101
  go_wp2
  rw [Lib.run_to_unsafe w ⟨b,1,none⟩ Tryz.underlying66 Tryz.underlying171 hj (by rw [hjs];decide) hsh (by show 1<3;decide)]
  simp only [Result.andThen]
  rw [Oper.upon_value]
  go_wp2
  rw [run_callFunc_extern Tryz.func136 (by kernel_rfl) (by kernel_rfl) (by kernel_rfl) (e:=Extern.AbiNoEscape.same) (by kernel_rfl)]
  rw [Lib.run_noEscape]
  simp only [Result.andThen]
  rw [Oper.upon_value]
  go_wp2
  rw [Lib.run_from_unsafe w ⟨b,1,none⟩ Tryz.underlying171 Tryz.underlying66 hj hsh hlies]
  simp only [Result.andThen]
  rw [Oper.upon_value]
  go_wp2
  go_end0
  refine ⟨rfl,?_,⟨rfl,rfl,rfl,by simp [World.setCell],fun k _ hk=>Below.heap_setCell w ⟨b,1,none⟩ _ k (fun e=>hk (by rw [e]))⟩⟩
  simp [World.setCell,Array.getElem?_modify,HB.out]
 ·go_enter Tryz.func101,Tryz.ntmps101
  go_wp2
  rw [Lib.run_neq_ptr_same w _ Tryz.underlying66 hj]
  go_wp2
  go_end0
  exact ⟨rfl,HB.out,⟨rfl,rfl,rfl,Nat.le_refl _,fun _ _ _=>rfl⟩⟩
theorem Qs:∃ i,Tryz.prog.info? 5=some i/\i.zero=some (.int .u8 0)/\i.size=1/\i.bytes=1:=by
 have h:(Tryz.prog.info? 5).map (fun i=>(i.zero,i.size,i.bytes))=some (some (.int .u8 0),1,1):=by kernel_rfl
 obtain ⟨i,hi,he⟩:=Option.map_eq_some_iff.1 h
 simp only [Prod.mk.injEq] at he
 exact ⟨i,hi,he.1,he.2.1,he.2.2⟩
theorem Qt {B b:Nat} {va v v':Value} {l l':List UInt8} {w w1 w2 wa:World} (hB:B<=b) (hBw:B<=w.heap.size) (hb:w.heap[b]?=some (.cells #[va,.pointer (some ⟨b,1,none⟩),v] 71 (0,0))∨∃ q,w.heap[b]?=some (.cells #[va,.pointer q,v] 71 (0,0))) (hr:w.ownsRow B 5 1 v l.length (byteCells l))
  (h1:w1.heap[b]?=some (.cells #[va,.pointer (some ⟨b,1,none⟩),v] 71 (0,0))) (g1:w.grownBy w1 (some b)) (ha:Below w1.heap.size w1 wa) (g2:wa.grownBy w2 v.ownBlock) (hr':w2.ownsRow B 5 1 v' l'.length (byteCells l')) :
  yf B b va l' (w2.setCell ⟨b,2,none⟩ v')/\Kq B w (w2.setCell ⟨b,2,none⟩ v'):=by
 have hq:∃ q,w.heap[b]?=some (.cells #[va,.pointer q,v] 71 (0,0)):=by
  rcases hb with h | h
  ·exact ⟨_,h⟩
  ·exact h
 obtain ⟨q,hb⟩:=hq
 have hne:=YO hb hr
 have hlt:b<w.heap.size:=(Array.getElem?_eq_some_iff.1 hb).1
 have hlt1:b<w1.heap.size:=Nat.lt_of_lt_of_le hlt g1.size
 have hlta:b<wa.heap.size:=Nat.lt_of_lt_of_le hlt1 ha.size
 have ha1:wa.heap[b]?=some (.cells #[va,.pointer (some ⟨b,1,none⟩),v] 71 (0,0)):=(ha.block b hlt1).trans h1
 have h2:w2.heap[b]?=some (.cells #[va,.pointer (some ⟨b,1,none⟩),v] 71 (0,0)):=(g2.block b hlta (fun e=>hne e.symm)).trans ha1
 have h3:(w2.setCell ⟨b,2,none⟩ v').heap[b]?=some (.cells #[va,.pointer (some ⟨b,1,none⟩),v'] 71 (0,0)):=by simp [World.setCell,Array.getElem?_modify,h2]
 have hbel:Below B w (w2.setCell ⟨b,2,none⟩ v'):=by
  have e1:Below B w w1:=(Below.refl B w).grown g1 hBw (fun k hk=>by injection hk with hk;omega)
  have e2:Below B w wa:=e1.trans (ha.mono (Nat.le_trans hBw g1.size))
  exact (e2.grown g2 (Nat.le_trans hBw (Nat.le_trans g1.size ha.size)) (fun k hk=>(hr.lt k hk).1)).setCell (p:=⟨b,2,none⟩) hB _
 refine ⟨⟨hB,_,_,h3,.inr rfl,?_⟩,hbel,fun k c ty fz e h5 h8=>?_⟩
 ·rcases hr'.2 with ⟨hv,hn⟩ | ⟨g,cap,cur,hv,hg,h4,h6⟩
  ·exact ⟨hr'.1,.inl ⟨hv,hn⟩⟩
  ·refine ⟨hr'.1,.inr ⟨g,cap,cur,hv,hg,?_,h6⟩⟩
   rw [Below.heap_setCell w2 ⟨b,2,none⟩ v' g (fun e=>by
    simp only at e
    subst e
    rw [h2] at h4
    cases h4)]
   exact h4
 ·have hkb:k≠b:=fun hk=>by
   subst hk
   rw [hb] at e
   injection e with e
   injection e with _ e _
   exact h8 e.symm
  have hk:k<w.heap.size:=(Array.getElem?_eq_some_iff.1 e).1
  have hkv:v.ownBlock≠some k:=fun hv=>by
   rcases hr.2 with ⟨rfl,_⟩ | ⟨g,cap,cur,rfl,_,h4,_⟩
   ·cases hv
   ·injection hv with hv
    subst hv
    rw [h4] at e
    injection e with e
    injection e with _ e _
    exact h5 e.symm
  rw [Below.heap_setCell w2 ⟨b,2,none⟩ v' k (fun e=>hkb (by simpa using e)),g2.block k (Nat.lt_of_lt_of_le hk (Nat.le_trans g1.size ha.size)) (fun e=>hkv e.symm),ha.block k (Nat.lt_of_lt_of_le hk g1.size),g1.block k hk (fun e=>hkb (by injection e))]
  exact e
theorem Qp (B b:Nat) (va:Value) (l:List UInt8) (c:UInt8) (x:Int) (hx:x=(c.toNat:Int)) (w:World) (h:yf B b va l w) (hl:l.length<=1000000000) (hBw:B<=w.heap.size) :
  Calls Tryz.prog 45 #[.pointer (some ⟨b,1,none⟩),.int .u8 x] w fun e w'=>e=.returned .nilIface/\yf B b va (l++[c]) w'/\Kq B w w':=by
 obtain ⟨i0,hi,hz0,hz1,hz2⟩:=Qs
 obtain ⟨hB,q,v,hb,hq,hr⟩:=h
 have HX:Hid (x=(c.toNat:Int)):=hx
 have HL:Hid (l.length<=1000000000):=hl
 have HB0:Hid (w.heap[b]?=some (.cells #[va,.pointer q,v] 71 (0,0))):=hb
 have HR:Hid (w.ownsRow B 5 1 v l.length (byteCells l)):=hr
 have HBw:Hid (B<=w.heap.size):=hBw
 clear hx hl hr hBw hb
 go_enter Tryz.func45,Tryz.ntmps45
 go_wp2_with (go_at_call 101;refine (Qr b va v q _ HB0.out hq).mono ?_)
 rintro e w1 ⟨rfl,hb1,g1⟩
 have HB1:Hid (w1.heap[b]?=some (.cells #[va,.pointer (some ⟨b,1,none⟩),v] 71 (0,0))):=hb1
 have HG1:Hid (w.grownBy w1 (some b)):=g1
 have hown:w1.ownsRow B 5 1 v l.length (byteCells l):=HR.out.kept g1 (.inr (YO HB0.out HR.out))
 have c2:w1.cell? ⟨b,2,none⟩=some v:=by rw [Lib.cell_of_heap hb1];rfl
 clear hb1 g1
 go_wp2_with (at_builtin;refine wpList_append_own _ rfl _ _ 67 rfl B 5 i0 (.int .u8 0) 1 1 Tryz.underlying67 hi hz0 hz1 hz2 rfl (by decide) _ _ _ rfl (hown.alloc _) ⟨w1.heap.size,0,none⟩ 1 1 [.int .u8 x] rfl rfl ?c1 ?c2 ?c3 ?c4 ?c5 ?_)
 case c1=>
  intro j u hj
  match j,hj with
  | 0,hj=>simp at hj;subst hj;simp [Addr.add]
 case c2=>intro u hu;simp at hu;subst hu;rfl
 case c3=>have:=HL.out;unfold maxLen;omega
 case c4=>have:=HL.out;omega
 case c5=>have:=HBw.out;have:=HG1.out.size;simp;omega
 intro v' w2 hown' hgrow _
 have HO:Hid (w2.ownsRow B 5 1 v' (l++[c]).length (byteCells (l++[c]))):=by
  have e:byteCells (l++[c])=byteCells l++[.int .u8 x]:=by rw [HX.out];simp [byteCells]
  show World.ownsRow _ _ _ _ _ _ _
  rw [e,List.length_append]
  exact hown'
 obtain ⟨wa,hwa⟩:∃ wa,w1.alloc (.cells #[.int .u8 x] 5)=wa:=⟨_,rfl⟩
 have HD:=Qt (l':=l++[c]) hB HBw.out (.inr ⟨q,HB0.out⟩) HR.out HB1.out HG1.out (wa:=wa) (by rw [<-hwa];exact (Below.refl _ _).alloc (Nat.le_refl _) _) (by rw [<-hwa];exact hgrow) HO.out
 have HDh:Hid (yf B b va (l++[c]) (w2.setCell ⟨b,2,none⟩ v')/\Kq B w (w2.setCell ⟨b,2,none⟩ v')):=HD
 have hne:=YO HB0.out HR.out
 have hb2:w2.heap[b]?=some (.cells #[va,.pointer (some ⟨b,1,none⟩),v] 71 (0,0)):=by
  have hlt1:b<w1.heap.size:=(Array.getElem?_eq_some_iff.1 HB1.out).1
  rw [hgrow.block b (by simp;omega) (fun e=>hne e.symm),Lib.alloc_old w1 _ b hlt1]
  exact HB1.out
 have d1:w2.cell? ⟨b,2,none⟩=some v:=by rw [Lib.cell_of_heap hb2];rfl
 have f1:w2.frozen? ⟨b,2,none⟩=false:=Lib.frozen_of_heap hb2 2
 obtain ⟨ao,n',cap,rfl⟩:∃ ao n' cap,v'=.slice ao n' cap:=by
  rcases hown'.2 with ⟨hv,_⟩ | ⟨g,cap,cur,hv,_⟩
  ·exact ⟨_,_,_,hv⟩
  ·exact ⟨_,_,_,hv⟩
 clear HD hb2 hgrow hown' hwa
 go_wp2
 go_ret
 exact ⟨rfl,HDh.out⟩
theorem Qo (B b:Nat) (va:Value) (l:List UInt8) (s:ByteArray) (w:World) (h:yf B b va l w) (hl:l.length+s.size<=1000000000) (hBw:B<=w.heap.size) :
  Calls Tryz.prog 44 #[.pointer (some ⟨b,1,none⟩),.string s] w fun e w'=>e=.returned (.tuple #[.int .i64 s.size,.nilIface])/\yf B b va (l++s.data.toList) w'/\Kq B w w':=by
 obtain ⟨i0,hi,hz0,hz1,hz2⟩:=Qs
 obtain ⟨hB,q,v,hb,hq,hr⟩:=h
 have HL:Hid (l.length+s.size<=1000000000):=hl
 have HB0:Hid (w.heap[b]?=some (.cells #[va,.pointer q,v] 71 (0,0))):=hb
 have HR:Hid (w.ownsRow B 5 1 v l.length (byteCells l)):=hr
 have HBw:Hid (B<=w.heap.size):=hBw
 clear hl hr hBw hb
 go_enter Tryz.func44,Tryz.ntmps44
 go_wp2_with (go_at_call 101;refine (Qr b va v q _ HB0.out hq).mono ?_)
 rintro e w1 ⟨rfl,hb1,g1⟩
 have HB1:Hid (w1.heap[b]?=some (.cells #[va,.pointer (some ⟨b,1,none⟩),v] 71 (0,0))):=hb1
 have HG1:Hid (w.grownBy w1 (some b)):=g1
 have hown:w1.ownsRow B 5 1 v l.length (byteCells l):=HR.out.kept g1 (.inr (YO HB0.out HR.out))
 have c2:w1.cell? ⟨b,2,none⟩=some v:=by rw [Lib.cell_of_heap hb1];rfl
 clear hb1 g1
 go_wp2_with (at_builtin;refine Lib.wpList_append_own_string _ rfl _ _ 67 9 rfl B 5 i0 Tryz.underlying67 Tryz.underlying9 hi hz0 hz1 hz2 _ _ _ rfl hown s rfl ?c3 ?c4 ?c5 ?_)
 case c3=>have:=HL.out;unfold maxLen;omega
 case c4=>have:=HL.out;omega
 case c5=>have:=HBw.out;have:=HG1.out.size;omega
 intro v' w2 hown' hgrow _
 have HO:Hid (w2.ownsRow B 5 1 v' (l++s.data.toList).length (byteCells (l++s.data.toList))):=by
  have e:byteCells (l++s.data.toList)=byteCells l++strCells s:=by simp [byteCells,strCells]
  show World.ownsRow _ _ _ _ _ _ _
  rw [e,List.length_append]
  simpa [Lib.strCells_length] using hown'
 have HD:=Qt (l':=l++s.data.toList) hB HBw.out (.inr ⟨q,HB0.out⟩) HR.out HB1.out HG1.out (wa:=w1) (Below.refl _ _) hgrow HO.out
 have HDh:Hid (yf B b va (l++s.data.toList) (w2.setCell ⟨b,2,none⟩ v')/\Kq B w (w2.setCell ⟨b,2,none⟩ v')):=HD
 have hne:=YO HB0.out HR.out
 have hb2:w2.heap[b]?=some (.cells #[va,.pointer (some ⟨b,1,none⟩),v] 71 (0,0)):=by
  have hlt1:b<w1.heap.size:=(Array.getElem?_eq_some_iff.1 HB1.out).1
  rw [hgrow.block b hlt1 (fun e=>hne e.symm)]
  exact HB1.out
 have d1:w2.cell? ⟨b,2,none⟩=some v:=by rw [Lib.cell_of_heap hb2];rfl
 have f1:w2.frozen? ⟨b,2,none⟩=false:=Lib.frozen_of_heap hb2 2
 obtain ⟨ao,n',cap,rfl⟩:∃ ao n' cap,v'=.slice ao n' cap:=by
  rcases hown'.2 with ⟨hv,_⟩ | ⟨g,cap,cur,hv,_⟩
  ·exact ⟨_,_,_,hv⟩
  ·exact ⟨_,_,_,hv⟩
 clear HD hb2 hgrow hown'
 go_wp2
 go_ret2
 exact ⟨rfl,HDh.out⟩
theorem Qu (B b:Nat) (va:Value) (l:List UInt8) (w:World) (h:yf B b va l w) :
  Calls Tryz.prog 24 #[.pointer (some ⟨b,1,none⟩)] w fun e w'=>e=.returned (.int .i64 l.length)/\w'=w:=by
 obtain ⟨hB,q,v,hb,hq,hown⟩:=h
 obtain ⟨ao,cap,rfl⟩:∃ ao cap,v=.slice ao l.length cap:=by
  rcases hown.2 with ⟨hv,h0⟩ | ⟨g,cap,cur,hv,_⟩
  ·exact ⟨none,0,by rw [hv,h0]⟩
  ·exact ⟨_,_,hv⟩
 have c1:w.cell? ⟨b,2,none⟩=some (.slice ao l.length cap):=by rw [Lib.cell_of_heap hb];rfl
 clear hb hq hown
 go_enter Tryz.func24,Tryz.ntmps24
 go_wp2
 go_ret
 exact ⟨rfl,rfl⟩
theorem Qv (B b:Nat) (va:Value) (l:List UInt8) (w:World) (h:yf B b va l w) (h0:l≠[]) :
  Calls Tryz.prog 25 #[.pointer (some ⟨b,1,none⟩)] w fun e w'=>e=.returned (.string ⟨l.toArray⟩)/\Below B w w':=by
 obtain ⟨hB,q,v,hbk,hq,hown⟩:=h
 have hl0:l.length≠0:=by simpa using h0
 obtain ⟨g,cap,cur,rfl,hbg,hg,hnc,hcm,hcs,htake⟩:∃ g cap cur,v=.slice (some ⟨g,0,none⟩) l.length cap/\B<=g/\w.heap[g]?=some (.cells cur 5 (0,0))/\l.length<=cap/\cap<=maxLen/\cur.size=cap * 1/\cur.toList.take (l.length * 1)=byteCells l:=by
  rcases hown.2 with ⟨_,hz⟩ | ⟨g,cap,cur,hv,r⟩
  ·exact absurd hz hl0
  ·exact ⟨g,cap,cur,hv,r⟩
 have c1:w.drew.cell? ⟨b,2,none⟩=some (.slice (some ⟨g,0,none⟩) l.length cap):=by
  have:w.drew.heap[b]?=some (.cells #[va,.pointer q,.slice (some ⟨g,0,none⟩) l.length cap] 71 (0,0)):=hbk
  rw [Lib.cell_of_heap this];rfl
 have hSD:(Builtin.unsafeSliceData_ #[67] 111 #[.slice (some ⟨g,0,none⟩) l.length cap]).run Tryz.prog w.drew=.ok (.pointer (some ⟨g,0,none⟩)) w.drew:=
  Lib.run_unsafeSliceData_row _ _ _ _ _ _ (by omega)
 have hUS:(Builtin.unsafeString_ #[111,3] 9 #[.pointer (some ⟨g,0,none⟩),.int .i64 l.length]).run Tryz.prog w.drew=.ok (.string ⟨l.toArray⟩) (w.drew.freeze ⟨g,0,none⟩ l.length):=by
  refine Lib.run_unsafeString_row w.drew 111 3 9 5 Tryz.underlying111 (by kernel_rfl) g cur.size (by have hg':w.drew.heap[g]?=some (.cells cur 5 (0,0)):=hg;simp [World.shape?,hg']) l h0 (by omega) (by unfold maxLen at hcm;omega) ?_
  intro j x hx
  have:=hown.cells (g:=g) rfl j (.int .u8 x.toNat) (by simp [Lib.byteCells,hx])
  exact this
 have mixed:Tryz.prog.follows Departure.mixedOrders=true:=by kernel_rfl
 clear hown hg htake hcs hcm hnc hbk hq
 go_enter Tryz.func25,Tryz.ntmps25
 go_wp2
 go_region_o
 all_goals (go_wp2;go_ret;exact ⟨rfl,Lib.below_freeze (Below.drew (Below.refl B w)) (p:=⟨g,0,none⟩) hbg _⟩)
theorem xj (B b:Nat) (va:Value) (l:List UInt8) (s:ByteArray) (w:World) (h:yf B b va l w) (hl:l.length+s.size+1<=1000000000) (hBw:B<=w.heap.size) :
  Calls Tryz.prog 77 #[.pointer (some ⟨b,0,none⟩),.string s] w fun e w'=>e=.returned (.pointer (some ⟨b,0,none⟩))/\yf B b va (l++32 :: s.data.toList) w'/\Kq B w w':=by
 have H:Hid (yf B b va l w):=h
 have HL:Hid (l.length+s.size+1<=1000000000):=hl
 have HBw:Hid (B<=w.heap.size):=hBw
 clear h hl hBw
 go_enter Tryz.func77,Tryz.ntmps77
 go_wp2_with (go_at_call 45;refine (Qp B b va l 32 32 rfl _ H.out (by have:=HL.out;omega) HBw.out).mono ?_)
 rintro e w1 ⟨rfl,h1,k1⟩
 have H1:Hid (yf B b va (l++[32]) w1):=h1
 have K1:Hid (Kq B w w1):=k1
 clear h1 k1
 go_wp2_with (go_at_call 44;refine (Qo B b va (l++[32]) s _ H1.out (by have:=HL.out;simp only [List.length_append,List.length_singleton];omega) (Nat.le_trans HBw.out K1.out.low.size)).mono ?_)
 rintro e w2 ⟨rfl,h2,k2⟩
 have H2:Hid (yf B b va (l++32 :: s.data.toList) w2):=by
  have:yf B b va (l++[32]++s.data.toList) w2:=h2
  rw [List.append_assoc] at this
  exact this
 have K2:Hid (Kq B w w2):=K1.out.trans k2
 clear h2 k2
 go_wp2
 go_ret
 exact ⟨rfl,H2.out,K2.out⟩
end Go.Proofs.YthohnmplbjhjaaaGreatDoor
