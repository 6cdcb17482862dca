/-
  Put together: PfRead, PfEr, PfAl, PfCt, PfMg, PfWlog, PfCt2, PfCt3, PfCt4, PfMh, PfPra, RoE, RoF.
-/
import Derived.RangeFuncNested
import Derived.RangeFuncBound
import Derived.RangeFuncCalls
import Derived.RangeFuncLeaves
import Derived.Shelf.Abstract
import Derived.Shelf.RegionOpen
import Derived.OwnWalkIn
import Derived.TacticsInMore
import Derived.LoopNIn
import Derived.LoopIn
import Derived.Test.YtpcijhecaedkpaaGreatDoorJ38
import Derived.Lib.IndexLaws
import Derived.Test.YtpcijhecaedkpaaGreatDoorJ14
import Derived.Test.YtpcijhecaedkpaaGreatDoorJ37
import Derived.Test.YtpcijhecaedkpaaGreatDoorJ36
namespace Go.Proofs.YtpcijhecaedkpaaGreatDoor
open Go.RowKit Go.Shelf Go.Lib
attribute [local go_sem] Oper.semAt_some
def gd (x:List UInt8):SL:=(parseP x).1
def er (x:List UInt8):Int:=(parseP x).2
end Go.Proofs.YtpcijhecaedkpaaGreatDoor

namespace Go.Proofs.YtpcijhecaedkpaaGreatDoor
open Go.RowKit
def OkL (s:Ls):Prop:=∀ e,s.2=some e->80<=e/\e<=82
theorem ok_fail {s:Ls} (h:OkL s) (e:Int) (he:80<=e/\e<=82):OkL (failP e s):=by
  intro e' h';unfold failP at h'
  split at h'
  · simp at h';subst h';exact he
  · exact h e' h'
theorem ok_if {c:Prop} [Decidable c] {a b:Ls} (ha:OkL a) (hb:OkL b):OkL (if c then a else b):=by split <;> assumption
theorem ok_take {s:Ls} (h:OkL s):OkL (takeP s).2:=by unfold takeP;split <;> exact h
theorem ok_next {s:Ls} (h:OkL s):OkL (nextP s).2:=by
  unfold nextP
  split
  · exact ok_take h
  · exact ok_fail (ok_take h) 82 (by decide)
theorem ok_must {s:Ls} (x:List UInt8) (h:OkL s):OkL (mustP x s):=ok_if (ok_next h) (ok_fail (ok_next h) 80 (by decide))
theorem ok_end {s:Ls} (h:OkL s):OkL (endP s):=ok_if (ok_fail (ok_take h) 80 (by decide)) (ok_take h)
theorem ok_whole {s:Ls} (x:List UInt8) (g:Int) (h:OkL s):OkL (wholeP x g s):=ok_if (ok_fail h 81 (by decide)) h
theorem ok_lit {s:Ls} (x:List UInt8) (h:OkL s):OkL (literalP x s):=ok_if h (ok_fail h 81 (by decide))
theorem ok_leanS {s:Ls} (x:List UInt8) (h:OkL s):OkL (leanS x s):=ok_if h (ok_fail h 80 (by decide))
theorem ok_lean {s:Ls} (x:List UInt8) (h:OkL s):OkL (leanP x s).2:=ok_whole _ _ (ok_next (ok_leanS x h))
theorem ok_operS {s:Ls} (x:List UInt8) (h:OkL s):OkL (operS x s):=ok_if (ok_fail h 80 (by decide)) h
theorem ok_oper {s:Ls} (x:List UInt8) (h:OkL s):OkL (operP x s).2:=by
  unfold operP
  split
  · exact h
  · exact ok_whole _ _ (ok_operS x h)
theorem ok_turn {s:Ls} (a b:Int) (L:List OpL) (h:OkL s):OkL (turnP a b L s).2:=by
  unfold turnP
  split
  · exact ok_fail h 80 (by decide)
  · split
    · exact h
    · exact ok_fail h 80 (by decide)
theorem ok_op {s:Ls} (x:List UInt8) (L:List OpL) (h:OkL s):OkL (opP x L s).2:=by
  unfold opP
  split
  · exact h
  split
  · exact h
  split
  · exact ok_turn _ _ _ h
  split
  · exact ok_turn _ _ _ h
  split
  · exact ok_turn _ _ _ h
  · exact ok_oper x h
theorem ok_lops:∀ (n:Nat) (L:List OpL) (s:Ls),OkL s->OkL (lopsP n L s).2
  | 0,_,_,h=>h
  | n + 1, L, s, h => by
    unfold lopsP
    split
    · exact ok_lops n _ _ (ok_op _ _ (ok_take h))
    · exact ok_take h
theorem ok_ops {s:Ls} (h:OkL s):OkL (opsP s).2:=ok_lops _ _ _ (ok_op _ _ (ok_next h))
theorem ok_lst {rd:List UInt8->Ls->Ls} (hr:∀ x s,OkL s->OkL (rd x s)):∀ (n:Nat) (s:Ls),OkL s->OkL (lstP rd n s).2
  | 0,_,h=>h
  | n + 1, s, h => by
    unfold lstP
    split
    · exact ok_lst hr n _ (hr _ _ (ok_take h))
    · exact ok_take h
theorem ok_list {rd:List UInt8->Ls->Ls} (hr:∀ x s,OkL s->OkL (rd x s)) {s:Ls} (h:OkL s):OkL (listP rd s).2:=ok_lst hr _ _ h
theorem ok_ids {s:Ls} (h:OkL s):OkL (idsP s).2:=ok_list (fun x _ h=>ok_whole x 1 h) h
theorem ok_rowL:∀ (n:Nat) (x:List UInt8) (s:Ls),OkL s->OkL (rowL n x s).2
  | 0,_,_,h=>h
  | n + 1, x, s, h => by
    unfold rowL
    split
    · exact h
    · exact ok_rowL n _ _ (ok_next (ok_lit _ (ok_next (ok_whole _ _ h))))
theorem ok_row {s:Ls} (h:OkL s):OkL (rowP s).2:=ok_must _ (ok_whole _ _ (ok_next (ok_rowL _ _ _ (ok_next h))))
theorem ok_musts (l:List (List UInt8)):∀ {s:Ls},OkL s->OkL (mustsP l s):=by
  unfold mustsP
  induction l with
  | nil=>exact fun h=>h
  | cons x l ih=>exact fun h=>ih (ok_must x h)
theorem ok_eqS {s:Ls} (h:OkL s):OkL (eqS s):=ok_whole _ _ (ok_next h)
theorem ok_pick (T:List FmL) (rd:FuncId->Ls->SL × Ls) (hr:∀ f s,OkL s->OkL (rd f s).2) {s:Ls} (h:OkL s):OkL (pickP T rd s).2.2:=by
  unfold pickP
  split
  · exact hr _ _ (ok_musts _ (ok_next h))
  · exact ok_fail (ok_next h) 80 (by decide)
theorem ok_unsat {s:Ls} (h:OkL s):OkL (unsatP s).2:=by
  unfold unsatP
  split
  · exact ok_lean _ (ok_take h)
  · exact ok_take h
theorem ok_all {s:Ls} (h:OkL s):OkL (allP s).2:=ok_lean _ (ok_next (ok_whole _ _ (ok_next h)))
theorem ok_bounds {s:Ls} (h:OkL s):OkL (boundsP s).2:=by
  have hA:OkL (bdA s):=by unfold bdA;exact ok_whole _ _ (ok_next h)
  have hB:OkL (bdB s):=ok_next hA;unfold boundsP
  split
  · exact ok_whole _ _ (ok_next (ok_lean _ hB))
  · exact ok_whole _ _ hB
theorem ok_rdC (f:FuncId) (s:Ls) (h:OkL s):OkL (rdC f s).2:=by
  unfold rdC
  split
  · exact ok_unsat h
  split
  · exact ok_bounds h
  split
  · exact ok_all h
  · exact h
theorem ok_ends {s:Ls} (h:OkL s):OkL (endsP s).2:=ok_pick _ _ ok_rdC h
theorem ok_rdF (f:FuncId) (s:Ls) (h:OkL s):OkL (rdF f s).2:=by
  unfold rdF
  split
  · exact ok_whole _ _ (ok_next h)
  split
  · exact ok_ops h
  split
  · exact ok_ids (ok_row h)
  split
  · exact ok_row (ok_eqS h)
  split
  · exact ok_list (fun x _ h=>ok_lit x h) h
  split
  · exact ok_ids (ok_eqS h)
  split
  · exact h
  split
  · exact ok_ends h
  · exact h
end Go.Proofs.YtpcijhecaedkpaaGreatDoor

namespace Go.Proofs.YtpcijhecaedkpaaGreatDoor
open Go.RowKit
theorem own_few {w:World} {B:Nat} {e:TypeId} {m:Nat} {v:Value} {n:Nat} {xs:List Value} (h:w.ownsRow B e m v n xs):n<=9223372036854775807:=by
  rcases h.2 with ⟨_,rfl⟩ | ⟨_,cap,_,_,_,_,h1,h2,_⟩
  · omega
  · unfold maxLen at h2;omega
theorem slr_of_own {B:Nat} {w:World} {d:SL} {vo vp vl vi:Value} (h:SlOwn B w d vo vp vl vi):SlR w d vo vp vl vi:=⟨rd_of_own h.o (own_few h.o),rd_of_own h.p (own_few h.p),rd_of_own h.l (own_few h.l),rd_of_own h.i (own_few h.i)⟩
theorem parse_out (x:List UInt8) (hx:x.length<=9000000) (w:World) (hg:Gl w):Calls Tryz.prog 11 #[.string (txtOf x)] w fun e w'=>∃ oa oc pa pc la lc ia ic,e=.returned (.tuple #[.agg #[.int .i64 (gd x).k,.string (txtOf (gd x).n),.slice oa (gd x).ops.length oc,.slice pa (gd x).pcs.length pc,.string (txtOf (gd x).deg),.slice la (gd x).lits.length lc,.slice ia (gd x).ids.length ic,.int .i64 (gd x).ends,.string (txtOf (gd x).low),.string (txtOf (gd x).high)],.int .i64 (er x)])/\SlR w' (gd x) (.slice oa (gd x).ops.length oc) (.slice pa (gd x).pcs.length pc) (.slice la (gd x).lits.length lc) (.slice ia (gd x).ids.length ic)/\Below w.heap.size w w':=by
  refine (parse_any8 x w hx hg).mono fun e w' hq=>?_
  obtain ⟨vo,vp,vl,vi,q1,q2,q3⟩:=hq;have r:=slr_of_own q2;obtain ⟨oa,oc,rfl⟩:=own_slice q2.o;obtain ⟨pa,pc,rfl⟩:=own_slice q2.p;obtain ⟨la,lc,rfl⟩:=own_slice q2.l;obtain ⟨ia,ic,rfl⟩:=own_slice q2.i;exact ⟨oa,oc,pa,pc,la,lc,ia,ic,q1,r,q3⟩
end Go.Proofs.YtpcijhecaedkpaaGreatDoor

namespace Go.Proofs.YtpcijhecaedkpaaGreatDoor
open Go.RowKit
structure CtAt (w:World) (b:Nat) (L:Int):Prop where
  o:w.heap[b]?=some (.cells #[.int .i64 L] 90 (0,0))
  le:L<=200000
  ge:-9223372036854775807<=L
theorem CtAt.lt {w:World} {b:Nat} {L:Int} (h:CtAt w b L):b<w.heap.size:=(Array.getElem?_eq_some_iff.1 h.o).1
theorem CtAt.below {w w':World} {b:Nat} {L:Int} (h:CtAt w b L) (hb:Below w.heap.size w w'):CtAt w' b L:=⟨(hb.block b h.lt).trans h.o,h.le,h.ge⟩
def CtO (B b:Nat) (L:Int) (wt:Nat) (w w':World):Prop:=∃ L',CtAt w' b L'/\(0<=L'->L'+(wt:Int)<=L)/\SStp B (fun k=>k=b) w w'
theorem CtO.next {B b:Nat} {L L1:Int} {u v:Nat} {w w1 w2:World} (h1:(0<=L1->L1+(u:Int)<=L)) (h2:SStp B (fun k=>k=b) w w1) (h:CtO B b L1 v w1 w2):CtO B b L (u+v) w w2:=by
  obtain ⟨L2,a1,a2,a3⟩:=h;exact ⟨L2,a1,fun h0=>by have:=a2 h0;have:=h1 (by omega);omega,h2.trans a3⟩
theorem CtO.to {B b:Nat} {L:Int} {u v:Nat} {w w1:World} (h:CtO B b L u w w1) (e:v<=u):CtO B b L v w w1:=by
  obtain ⟨L2,a1,a2,a3⟩:=h;exact ⟨L2,a1,fun h0=>by have:=a2 h0;omega,a3⟩
def SomeB (e:Ending):Prop:=∃ bo,e=.returned (.bool bo)
theorem many_any (w:World):Calls Tryz.prog 7 #[.int .i64 200000] w fun e w'=>e=.returned (.pointer (some ⟨w.heap.size,0,none⟩))/\w'=w.alloc (.cells #[.int .i64 200000] 90):=by
  go_enter Tryz.func7,Tryz.ntmps7;go_wp2;go_ret;exact ⟨rfl,rfl⟩
theorem cok_any (b:Nat) (L:Int) (w:World) (h:CtAt w b L):Calls Tryz.prog 9 #[.pointer (some ⟨b,0,none⟩)] w fun e w'=>e=.returned (.bool (decide (0<=L)))/\w'=w:=by
  have c0:w.cell? ⟨b,0,none⟩=some (.int .i64 L):=cell_of h.o 0;clear h;go_enter Tryz.func9,Tryz.ntmps9;go_wp2;go_ret;exact ⟨rfl,rfl⟩
theorem cadd_any {B b:Nat} (L:Int) (n:Nat) (w:World) (h:CtAt w b L) (hB:B<=b) (hn:n<=maxLen):Calls Tryz.prog 83 #[.pointer (some ⟨b,0,none⟩),.int .i64 (n:Int)] w fun e w'=>SomeB e/\CtO B b L n w w':=by
  have c0:w.cell? ⟨b,0,none⟩=some (.int .i64 L):=cell_of h.o 0;have z0:=frozen_of h.o 0;unfold maxLen at hn;have hle:=h.le;have hge:=h.ge;have HC:Hid (CtAt w b L):=h;clear h
  by_cases hL:0<=L
  · have hwr:wrap64 (L-(n:Int))=L-(n:Int):=by unfold wrap64;omega
    have c1:(w.setCell ⟨b,0,none⟩ (.int .i64 (L-(n:Int)))).cell? ⟨b,0,none⟩=some (.int .i64 (L-(n:Int))):=cell_of (set_of HC.out.o 0 _) 0;go_enter Tryz.func83,Tryz.ntmps83;go_wp2;go_ret;exact ⟨⟨_,rfl⟩,L-n,⟨set_of HC.out.o 0 _,by omega,by omega⟩,fun _=>by omega,(Below.refl _ _).setCell hB _,Off.set _ rfl⟩
  · have hLd:decide (0<=L)=false:=decide_eq_false hL
    go_enter Tryz.func83,Tryz.ntmps83;go_wp2;go_ret;exact ⟨⟨_,rfl⟩,L,HC.out,fun h=>by omega,SStp.refl _ _ _⟩
theorem ctext_any {B b:Nat} (L:Int) (s:ByteArray) (w:World) (h:CtAt w b L) (hB:B<=b) (hn:s.size<=maxLen):Calls Tryz.prog 28 #[.pointer (some ⟨b,0,none⟩),.string s] w fun e w'=>e=.returned (.tuple #[])/\CtO B b L (s.size+1) w w':=by
  have H1:Hid (Calls Tryz.prog 83 #[.pointer (some ⟨b,0,none⟩),.int .i64 1] w fun e w'=>SomeB e/\CtO B b L 1 w w'):=cadd_any L 1 w h hB (by unfold maxLen;omega);have H2:Hid (∀ L' w',CtAt w' b L'->Calls Tryz.prog 83 #[.pointer (some ⟨b,0,none⟩),.int .i64 (s.size:Int)] w' fun e w2=>SomeB e/\CtO B b L' s.size w' w2):=fun L' w' h'=>cadd_any L' s.size w' h' hB hn
  clear h hn;go_enter Tryz.func28,Tryz.ntmps28;go_wp2_with fail
  refine calls_at H1.out (by with_reducible rfl) (by with_reducible rfl) ?_;rintro e w1 ⟨⟨b1,rfl⟩,L1,h1,h2,h3⟩;have HC:Hid (CtAt w1 b L1/\(0<=L1->L1+((1:Nat):Int)<=L)/\SStp B (fun k=>k=b) w w1):=⟨h1,h2,h3⟩;clear h1 h2 h3 H1;go_wp2_with fail
  refine calls_at (H2.out L1 w1 HC.out.1) (by with_reducible rfl) (by with_reducible rfl) ?_;rintro e w2 ⟨⟨b2,rfl⟩,h2⟩;have HE:Hid (CtO B b L1 s.size w1 w2):=h2;clear h2;go_wp2_with fail
  go_end0;exact ⟨rfl,(CtO.next HC.out.2.1 HC.out.2.2 HE.out).to (by omega)⟩
end Go.Proofs.YtpcijhecaedkpaaGreatDoor

namespace Go.Proofs.YtpcijhecaedkpaaGreatDoor
open Go.RowKit
theorem er_right {x:List UInt8} (h:er x=0):∃ L,Rgt L (gd x)/\(Tk x L∨L=[[42]]):=by
  refine parse_right (x:=x) (Prod.ext rfl h) fun e he=>?_
  intro h0;subst h0;have hk:OkL (endP (pickP formsL rdF (x,none)).2.2):=ok_end (ok_pick _ _ ok_rdF (fun e he=>by cases he));unfold readP at he
  split at he
  · cases he
  · have:=hk 0 he
    omega
end Go.Proofs.YtpcijhecaedkpaaGreatDoor

namespace Go.Proofs.YtpcijhecaedkpaaGreatDoor
open Go.RowKit
def StsR (w:World) (v:Value) (ds:List SL):Prop:=∃ a c,v=.slice a ds.length c/\ds.length<=9223372036854775807/\∀ i (hi:i<ds.length),∃ g off vo vp vl vi,a=some ⟨g,off,none⟩/\g<w.heap.size/\SlR w ds[i] vo vp vl vi/\∀ j,j<10->w.cell? ⟨g,off+i*10+j,none⟩=(slC ds[i] vo vp vl vi)[j]?
theorem StsR.below {w w':World} {v:Value} {ds:List SL} (h:StsR w v ds) (hb:Below w.heap.size w w'):StsR w' v ds:=by
  obtain ⟨a,c,h1,h2,h3⟩:=h;refine ⟨a,c,h1,h2,fun i hi=>?_⟩;obtain ⟨g,off,vo,vp,vl,vi,e1,e2,e3,e4⟩:=h3 i hi;exact ⟨g,off,vo,vp,vl,vi,e1,Nat.lt_of_lt_of_le e2 hb.size,e3.below hb,fun j hj=>(hb.cell (p:=⟨g,off+i*10+j,none⟩) e2).trans (e4 j hj)⟩
def slB (a b:SL):Bool:=decide (a.k=b.k/\a.n=b.n/\a.ops=b.ops/\a.pcs=b.pcs/\a.deg=b.deg/\a.lits=b.lits/\a.ids=b.ids/\a.ends=b.ends/\a.low=b.low/\a.high=b.high)
theorem slB_iff {a b:SL}:slB a b=true↔a=b:=by
  unfold slB;rw [decide_eq_true_iff]
  constructor
  · intro h
    obtain ⟨k,n,o,p,g,l,i,e,w,q⟩:=a;obtain ⟨h0,h1,h2,h3,h4,h5,h6,h7,h8,h9⟩:=h;obtain ⟨k',n',o',p',g',l',i',e',w',q'⟩:=b;simp only at h0 h1 h2 h3 h4 h5 h6 h7 h8 h9;subst h0 h1 h2 h3 h4 h5 h6 h7 h8 h9;rfl
  · intro h;rw [h];exact ⟨rfl,rfl,rfl,rfl,rfl,rfl,rfl,rfl,rfl,rfl⟩
theorem slB_pair {q:SL × Int} {d:SL}:(slB q.1 d&&decide (q.2=0))=true↔q=(d,0):=by
  obtain ⟨a,n⟩:=q;simp only [Bool.and_eq_true,slB_iff,decide_eq_true_iff,Prod.mk.injEq]
def prT (d:SL):List UInt8 × Int:=if (slB (parseP (lnT d)).1 d&&decide ((parseP (lnT d)).2=0))=true then (lnT d,0) else ([],83)
def PrO (d:SL) (w:World) (e:Ending) (w':World):Prop:=e=.returned (.tuple #[.string (txtOf (prT d).1),.int .i64 (prT d).2])/\Below w.heap.size w w'
theorem prT_yes {d:SL} (h:parseP (lnT d)=(d,0)):prT d=(lnT d,0):=by unfold prT;rw [if_pos (slB_pair.2 h)]
theorem prT_no {d:SL} (h:parseP (lnT d)≠(d,0)):prT d=([],83):=by unfold prT;rw [if_neg (fun e=>h (slB_pair.1 e))]
end Go.Proofs.YtpcijhecaedkpaaGreatDoor

namespace Go.Proofs.YtpcijhecaedkpaaGreatDoor
open Go.RowKit
set_option maxRecDepth 10000
set_option maxHeartbeats 8000000
theorem tot_snoc (L:List (List UInt8)) (i:Nat) (hi:i<L.length):tot (L.take (i+1))=tot (L.take i)+(L[i].length+1):=by
  rw [List.take_succ_eq_append_getElem hi,tot_app];simp [tot]
theorem ctexts_any (w0:World) (M:List (List UInt8)) (v:Value) (hR:RdAt w0 v M.length (M.map fun x=>.string (txtOf x))) (hm:∀ x∈M,x.length<=maxLen) {b:Nat} (L:Int) (w:World) (h:CtAt w b L) (hB:w0.heap.size<=b) (hb:Below w0.heap.size w0 w):Calls Tryz.prog 8 #[.pointer (some ⟨b,0,none⟩),v] w fun e w'=>e=.returned (.tuple #[])/\CtO w0.heap.size b L (tot (M)) w w':=by
  obtain ⟨a,c,rfl,hn,_⟩:=id hR;have HR:Hid (RdAt w0 (.slice a M.length c) M.length (M.map fun x=>.string (txtOf x))):=hR;have HM:Hid (∀ x∈M,x.length<=maxLen):=hm;have HB:Hid (Below w0.heap.size w0 w):=hb;have HC0:Hid (CtAt w b L):=h;have HTe:Hid (∀ L' x w',CtAt w' b L'->x.length<=maxLen->Calls Tryz.prog 28 #[.pointer (some ⟨b,0,none⟩),.string (txtOf x)] w' fun e w2=>e=.returned (.tuple #[])/\CtO w0.heap.size b L' (x.length+1) w' w2):=fun L' x w' h' hx=>by
    have:=ctext_any (B:=w0.heap.size) L' (txtOf x) w' h' hB (by rw [txt_size];exact hx);rw [txt_size] at this;exact this
  have HOk:Hid (∀ L' w',CtAt w' b L'->Calls Tryz.prog 9 #[.pointer (some ⟨b,0,none⟩)] w' fun e w2=>e=.returned (.bool (decide (0<=L')))/\w2=w'):=fun L' w' h'=>cok_any b L' w' h'
  clear hR hm hb h;go_enter Tryz.func8,Tryz.ntmps8;go_wp2_with fail
  go_loopw [4] (fun iv wr=>∃ i:Nat,iv=.int .i64 (i:Int)/\i<=M.length/\Hid (CtO w0.heap.size b L (tot ((M).take i)) w wr)) (fun iv _=>M.length-(intOf iv).toNat)
  case atStart=>exact ⟨0,rfl,Nat.zero_le _,L,HC0.out,fun _=>by simp [tot],SStp.refl _ _ _⟩
  case round=>
    obtain ⟨i,rfl,hi,HI⟩:=hrel;obtain ⟨Lr,k1,k2,k3⟩:=HI.out;have HK:Hid (CtAt wr b Lr/\(0<=Lr->Lr+((tot ((M).take i):Nat):Int)<=L)/\SStp w0.heap.size (fun k=>k=b) w wr):=⟨k1,k2,k3⟩;clear k1 k2 k3
    by_cases hin:i<M.length
    · have hiI:(i:Int)<(M.length:Int):=by omega
      go_wp2_with fail
      refine calls_at (HOk.out Lr wr HK.out.1) (by with_reducible rfl) (by with_reducible rfl) ?_;rintro e w1 ⟨rfl,hw1⟩;rw [hw1];clear hw1
      by_cases hL:0<=Lr
      · rw [decide_eq_true hL]
        obtain ⟨g,off,e1,e2,e3⟩:∃ g off,a=some ⟨g,off,none⟩/\g<wr.heap.size/\∀ j u,(M.map fun x=>.string (txtOf x))[j]?=some u->wr.cell? ⟨g,off+j,none⟩=some u:=by
          obtain ⟨a',c',q1,_,q3⟩:=HR.out.below (HB.out.trans HK.out.2.2.below);obtain ⟨rfl,_,rfl⟩:a=a'/\M.length=M.length/\c=c':=by simpa using q1
          exact q3 (by omega)
        obtain rfl:=e1;obtain ⟨x,hx⟩:∃ x,(M)[i]'(by simpa using hin)=x:=⟨_,rfl⟩;have q0:wr.cell? ⟨g,off+i,none⟩=some (.string (txtOf x)):=e3 i _ (by simp [hin,hx]);have hxl:x.length<=maxLen:=HM.out x (by rw [<-hx];exact List.getElem_mem _);have HTs:Hid (tot ((M).take (i+1))=tot ((M).take i)+(x.length+1)):=by
          have:=tot_snoc (M) i (by simpa using hin);rw [hx] at this;exact this
        clear e3 hx e2;go_wp2_with fail
        refine calls_at (HTe.out Lr x wr HK.out.1 hxl) (by with_reducible rfl) (by with_reducible rfl) ?_;rintro e w2 ⟨rfl,h2⟩;have HE:Hid (CtO w0.heap.size b L (tot ((M).take (i+1))) w w2):=by rw [HTs.out];exact CtO.next HK.out.2.1 HK.out.2.2 h2
        clear h2;go_wp2_with fail
        go_roundw
        case rel=>exact ⟨i+1,by go_num,hin,HE⟩
        case measure=>simp [intOf];omega
      · rw [decide_eq_false hL]
        have HE:Hid (CtO w0.heap.size b L (tot (M)) w wr):=⟨Lr,HK.out.1,fun h=>absurd h hL,HK.out.2.2⟩;go_wp2_with fail
        go_end0;exact ⟨rfl,HE.out⟩
    · have hiI:¬ (i:Int)<(M.length:Int):=by omega
      have HE:Hid (CtO w0.heap.size b L (tot (M)) w wr):=by
        have:=HI.out;rw [List.take_of_length_le (by (try simp);omega)] at this;exact this
      go_wp2_with fail
      go_end0;exact ⟨rfl,HE.out⟩
theorem cops_any (w0:World) (M:List OpL) (v:Value) (hR:RdAt w0 v M.length (opsC M)) (hm:∀ x∈M.map fun o=>o.2.1,x.length<=maxLen) {b:Nat} (L:Int) (w:World) (h:CtAt w b L) (hB:w0.heap.size<=b) (hb:Below w0.heap.size w0 w):Calls Tryz.prog 118 #[.pointer (some ⟨b,0,none⟩),v] w fun e w'=>e=.returned (.tuple #[])/\CtO w0.heap.size b L (tot (M.map fun o=>o.2.1)) w w':=by
  obtain ⟨a,c,rfl,hn,_⟩:=id hR;have HR:Hid (RdAt w0 (.slice a M.length c) M.length (opsC M)):=hR;have HM:Hid (∀ x∈M.map fun o=>o.2.1,x.length<=maxLen):=hm;have HB:Hid (Below w0.heap.size w0 w):=hb;have HC0:Hid (CtAt w b L):=h;have HTe:Hid (∀ L' x w',CtAt w' b L'->x.length<=maxLen->Calls Tryz.prog 28 #[.pointer (some ⟨b,0,none⟩),.string (txtOf x)] w' fun e w2=>e=.returned (.tuple #[])/\CtO w0.heap.size b L' (x.length+1) w' w2):=fun L' x w' h' hx=>by
    have:=ctext_any (B:=w0.heap.size) L' (txtOf x) w' h' hB (by rw [txt_size];exact hx);rw [txt_size] at this;exact this
  have HOk:Hid (∀ L' w',CtAt w' b L'->Calls Tryz.prog 9 #[.pointer (some ⟨b,0,none⟩)] w' fun e w2=>e=.returned (.bool (decide (0<=L')))/\w2=w'):=fun L' w' h'=>cok_any b L' w' h'
  clear hR hm hb h;go_enter Tryz.func118,Tryz.ntmps118;go_wp2_with fail
  go_loopw [4] (fun iv wr=>∃ i:Nat,iv=.int .i64 (i:Int)/\i<=M.length/\Hid (CtO w0.heap.size b L (tot ((M.map fun o=>o.2.1).take i)) w wr)) (fun iv _=>M.length-(intOf iv).toNat)
  case atStart=>exact ⟨0,rfl,Nat.zero_le _,L,HC0.out,fun _=>by simp [tot],SStp.refl _ _ _⟩
  case round=>
    obtain ⟨i,rfl,hi,HI⟩:=hrel;obtain ⟨Lr,k1,k2,k3⟩:=HI.out;have HK:Hid (CtAt wr b Lr/\(0<=Lr->Lr+((tot ((M.map fun o=>o.2.1).take i):Nat):Int)<=L)/\SStp w0.heap.size (fun k=>k=b) w wr):=⟨k1,k2,k3⟩;clear k1 k2 k3
    by_cases hin:i<M.length
    · have hiI:(i:Int)<(M.length:Int):=by omega
      go_wp2_with fail
      refine calls_at (HOk.out Lr wr HK.out.1) (by with_reducible rfl) (by with_reducible rfl) ?_;rintro e w1 ⟨rfl,hw1⟩;rw [hw1];clear hw1
      by_cases hL:0<=Lr
      · rw [decide_eq_true hL]
        obtain ⟨g,off,e1,e2,e3⟩:∃ g off,a=some ⟨g,off,none⟩/\g<wr.heap.size/\∀ j u,(opsC M)[j]?=some u->wr.cell? ⟨g,off+j,none⟩=some u:=by
          obtain ⟨a',c',q1,_,q3⟩:=HR.out.below (HB.out.trans HK.out.2.2.below);obtain ⟨rfl,_,rfl⟩:a=a'/\M.length=M.length/\c=c':=by simpa using q1
          exact q3 (by omega)
        obtain rfl:=e1;obtain ⟨x,hx⟩:∃ x,(M.map fun o=>o.2.1)[i]'(by simpa using hin)=x:=⟨_,rfl⟩;have q0:wr.cell? ⟨g,off+i*3+1,none⟩=some (.string (txtOf x)):=by
          have:=e3 _ _ (ops_get M i hin).2.1;have hx':M[i].2.1=x:=by simpa using hx
          rw [hx'] at this;exact this
        have hxl:x.length<=maxLen:=HM.out x (by rw [<-hx];exact List.getElem_mem _);have HTs:Hid (tot ((M.map fun o=>o.2.1).take (i+1))=tot ((M.map fun o=>o.2.1).take i)+(x.length+1)):=by
          have:=tot_snoc (M.map fun o=>o.2.1) i (by simpa using hin);rw [hx] at this;exact this
        clear e3 hx e2;go_wp2_with fail
        refine calls_at (HTe.out Lr x wr HK.out.1 hxl) (by with_reducible rfl) (by with_reducible rfl) ?_;rintro e w2 ⟨rfl,h2⟩;have HE:Hid (CtO w0.heap.size b L (tot ((M.map fun o=>o.2.1).take (i+1))) w w2):=by rw [HTs.out];exact CtO.next HK.out.2.1 HK.out.2.2 h2
        clear h2;go_wp2_with fail
        go_roundw
        case rel=>exact ⟨i+1,by go_num,hin,HE⟩
        case measure=>simp [intOf];omega
      · rw [decide_eq_false hL]
        have HE:Hid (CtO w0.heap.size b L (tot (M.map fun o=>o.2.1)) w wr):=⟨Lr,HK.out.1,fun h=>absurd h hL,HK.out.2.2⟩;go_wp2_with fail
        go_end0;exact ⟨rfl,HE.out⟩
    · have hiI:¬ (i:Int)<(M.length:Int):=by omega
      have HE:Hid (CtO w0.heap.size b L (tot (M.map fun o=>o.2.1)) w wr):=by
        have:=HI.out;rw [List.take_of_length_le (by (try simp);omega)] at this;exact this
      go_wp2_with fail
      go_end0;exact ⟨rfl,HE.out⟩
end Go.Proofs.YtpcijhecaedkpaaGreatDoor

namespace Go.Proofs.YtpcijhecaedkpaaGreatDoor
open Go.RowKit
set_option maxRecDepth 10000
set_option maxHeartbeats 8000000
theorem crow_any (w0:World) (M:List PcL) (deg:List UInt8) (v:Value) (hR:RdAt w0 v M.length (pcsC M)) (hm:∀ x∈M.map fun o=>o.1,x.length<=maxLen) (hd:deg.length<=maxLen) {b:Nat} (L:Int) (w:World) (h:CtAt w b L) (hB:w0.heap.size<=b) (hb:Below w0.heap.size w0 w):Calls Tryz.prog 119 #[.pointer (some ⟨b,0,none⟩),.agg #[v,.string (txtOf deg)]] w fun e w'=>e=.returned (.tuple #[])/\CtO w0.heap.size b L (deg.length+1+tot (M.map fun o=>o.1)) w w':=by
  obtain ⟨a,c,rfl,hn,_⟩:=id hR;have HR:Hid (RdAt w0 (.slice a M.length c) M.length (pcsC M)):=hR;have HM:Hid (∀ x∈M.map fun o=>o.1,x.length<=maxLen):=hm;have HB:Hid (Below w0.heap.size w0 w):=hb;have hbl:=h.lt;have HTe:Hid (∀ L' x w',CtAt w' b L'->x.length<=maxLen->Calls Tryz.prog 28 #[.pointer (some ⟨b,0,none⟩),.string (txtOf x)] w' fun e w2=>e=.returned (.tuple #[])/\CtO w0.heap.size b L' (x.length+1) w' w2):=fun L' x w' h' hx=>by
    have:=ctext_any (B:=w0.heap.size) L' (txtOf x) w' h' hB (by rw [txt_size];exact hx);rw [txt_size] at this;exact this
  have HOk:Hid (∀ L' w',CtAt w' b L'->Calls Tryz.prog 9 #[.pointer (some ⟨b,0,none⟩)] w' fun e w2=>e=.returned (.bool (decide (0<=L')))/\w2=w'):=fun L' w' h'=>cok_any b L' w' h'
  obtain ⟨W,hW⟩:∃ W,w.alloc (.cells #[.slice a M.length c,.string (txtOf deg)] 49)=W:=⟨_,rfl⟩;have hbW:Below w.heap.size w W:=by rw [<-hW];exact (Below.refl _ _).alloc (Nat.le_refl _) _
  have gW:W.heap[w.heap.size]?=some (.cells #[.slice a M.length c,.string (txtOf deg)] 49 (0,0)):=by rw [<-hW];exact heap_alloc_new w _
  have HC0:Hid (CtAt W b L):=h.below hbW;have HSW:Hid (SStp w0.heap.size (fun k=>k=b) w W):=SStp.of_below hbW (Nat.le_of_lt (Nat.lt_of_le_of_lt hB hbl));have HBx:Hid (∀ w',SStp w0.heap.size (fun k=>k=b) W w'->w'.cell? ⟨w.heap.size,0,none⟩=some (.slice a M.length c)/\w'.cell? ⟨w.heap.size,1,none⟩=some (.string (txtOf deg))):=fun w' hs=>by
    have g:=(hs.off.block w.heap.size (Array.getElem?_eq_some_iff.1 gW).1 (fun e=>by have e':w.heap.size=b:=e;omega)).trans gW;exact ⟨cell_of g 0,cell_of g 1⟩
  obtain ⟨m0,m1⟩:=HBx.out W (SStp.refl _ _ _);have H1:Hid (Calls Tryz.prog 28 #[.pointer (some ⟨b,0,none⟩),.string (txtOf deg)] W fun e w2=>e=.returned (.tuple #[])/\CtO w0.heap.size b L (deg.length+1) W w2):=HTe.out L deg W HC0.out hd;clear hR hm hb h hbW gW;go_enter Tryz.func119,Tryz.ntmps119;go_wp2_with fail
  refine calls_at H1.out (by with_reducible rfl) (by with_reducible rfl) ?_;rintro e wd ⟨rfl,Ld,hd1,hd2,hd3⟩;have HD:Hid (CtAt wd b Ld/\(0<=Ld->Ld+((deg.length+1:Nat):Int)<=L)/\SStp w0.heap.size (fun k=>k=b) W wd):=⟨hd1,hd2,hd3⟩;clear hd1 hd2 hd3 H1 m0 m1 hW;go_wp2_with fail
  go_loopw [4] (fun iv wr=>∃ i:Nat,iv=.int .i64 (i:Int)/\i<=M.length/\Hid (CtO w0.heap.size b L (deg.length+1+tot ((M.map fun o=>o.1).take i)) W wr)) (fun iv _=>M.length-(intOf iv).toNat)
  case atStart=>exact ⟨0,rfl,Nat.zero_le _,Ld,HD.out.1,HD.out.2.1,HD.out.2.2⟩
  case round=>
    obtain ⟨i,rfl,hi,HI⟩:=hrel;obtain ⟨Lr,k1,k2,k3⟩:=HI.out;have HK:Hid (CtAt wr b Lr/\(0<=Lr->Lr+((deg.length+1+tot ((M.map fun o=>o.1).take i):Nat):Int)<=L)/\SStp w0.heap.size (fun k=>k=b) W wr):=⟨k1,k2,k3⟩;clear k1 k2 k3;obtain ⟨m0,_⟩:=HBx.out wr HK.out.2.2
    by_cases hin:i<M.length
    · have hiI:(i:Int)<(M.length:Int):=by omega
      go_wp2_with fail
      refine calls_at (HOk.out Lr wr HK.out.1) (by with_reducible rfl) (by with_reducible rfl) ?_;rintro e w1 ⟨rfl,hw1⟩;rw [hw1];clear hw1
      by_cases hL:0<=Lr
      · rw [decide_eq_true hL]
        obtain ⟨g,off,e1,e2,e3⟩:∃ g off,a=some ⟨g,off,none⟩/\g<wr.heap.size/\∀ j u,(pcsC M)[j]?=some u->wr.cell? ⟨g,off+j,none⟩=some u:=by
          obtain ⟨a',c',q1,_,q3⟩:=HR.out.below (HB.out.trans (HSW.out.below.trans HK.out.2.2.below));obtain ⟨rfl,_,rfl⟩:a=a'/\M.length=M.length/\c=c':=by simpa using q1
          exact q3 (by omega)
        obtain rfl:=e1;obtain ⟨x,hx⟩:∃ x,(M.map fun o=>o.1)[i]'(by simpa using hin)=x:=⟨_,rfl⟩;have q0:wr.cell? ⟨g,off+i*2,none⟩=some (.string (txtOf x)):=by
          have:=e3 _ _ (pcs_get M i hin).1;have hx':M[i].1=x:=by simpa using hx
          rw [hx'] at this;exact this
        have hxl:x.length<=maxLen:=HM.out x (by rw [<-hx];exact List.getElem_mem _);have HTs:Hid (deg.length+1+tot ((M.map fun o=>o.1).take (i+1))=deg.length+1+tot ((M.map fun o=>o.1).take i)+(x.length+1)):=by
          have:=tot_snoc (M.map fun o=>o.1) i (by simpa using hin);rw [hx] at this;show _=_;omega
        clear e3 hx e2;go_wp2_with fail
        refine calls_at (HTe.out Lr x wr HK.out.1 hxl) (by with_reducible rfl) (by with_reducible rfl) ?_;rintro e w2 ⟨rfl,h2⟩;have HE:Hid (CtO w0.heap.size b L (deg.length+1+tot ((M.map fun o=>o.1).take (i+1))) W w2):=by rw [HTs.out];exact CtO.next HK.out.2.1 HK.out.2.2 h2
        clear h2 m0;go_wp2_with fail
        go_roundw
        case rel=>exact ⟨i+1,by go_num,hin,HE⟩
        case measure=>simp [intOf];omega
      · rw [decide_eq_false hL]
        have HE:Hid (CtO w0.heap.size b L (deg.length+1+tot (M.map fun o=>o.1)) w wr):=⟨Lr,HK.out.1,fun h=>absurd h hL,HSW.out.trans HK.out.2.2⟩;go_wp2_with fail
        go_end0;exact ⟨rfl,HE.out⟩
    · have hiI:¬ (i:Int)<(M.length:Int):=by omega
      have HE:Hid (CtO w0.heap.size b L (deg.length+1+tot (M.map fun o=>o.1)) w wr):=by
        obtain ⟨L',r1,r2,r3⟩:=HI.out;rw [List.take_of_length_le (by (try simp);omega)] at r2;exact ⟨L',r1,r2,HSW.out.trans r3⟩
      go_wp2_with fail
      go_end0;exact ⟨rfl,HE.out⟩
def stW (d:SL):Nat:=(d.n.length+1)+(d.low.length+1)+(d.high.length+1)+tot (d.ops.map fun o=>o.2.1)+(d.deg.length+1+tot (d.pcs.map fun o=>o.1))+d.lits.length+tot d.ids
structure SlM (d:SL):Prop where
  n:d.n.length<=maxLen
  low:d.low.length<=maxLen
  high:d.high.length<=maxLen
  deg:d.deg.length<=maxLen
  ops:∀ x∈d.ops.map fun o=>o.2.1,x.length<=maxLen
  pcs:∀ x∈d.pcs.map fun o=>o.1,x.length<=maxLen
  ids:∀ x∈d.ids,x.length<=maxLen
  lits:d.lits.length<=maxLen
theorem cstep_any (w0:World) (d:SL) (vo vp vl vi:Value) (hR:SlR w0 d vo vp vl vi) (hm:SlM d) {b:Nat} (L:Int) (w:World) (h:CtAt w b L) (hB:w0.heap.size<=b) (hb:Below w0.heap.size w0 w):Calls Tryz.prog 57 #[.pointer (some ⟨b,0,none⟩),.agg (slC d vo vp vl vi)] w fun e w'=>e=.returned (.tuple #[])/\CtO w0.heap.size b L (stW d) w w':=by
  have hbl:=h.lt;have HTe:Hid (∀ L' x w',CtAt w' b L'->x.length<=maxLen->Calls Tryz.prog 28 #[.pointer (some ⟨b,0,none⟩),.string (txtOf x)] w' fun e w2=>e=.returned (.tuple #[])/\CtO w0.heap.size b L' (x.length+1) w' w2):=fun L' x w' h' hx=>by
    have:=ctext_any (B:=w0.heap.size) L' (txtOf x) w' h' hB (by rw [txt_size];exact hx);rw [txt_size] at this;exact this
  have HOp:Hid (∀ L' w',CtAt w' b L'->Below w0.heap.size w0 w'->Calls Tryz.prog 118 #[.pointer (some ⟨b,0,none⟩),vo] w' fun e w2=>e=.returned (.tuple #[])/\CtO w0.heap.size b L' (tot (d.ops.map fun o=>o.2.1)) w' w2):=fun L' w' h' hb'=>cops_any w0 d.ops vo hR.o hm.ops L' w' h' hB hb'
  have HRw:Hid (∀ L' w',CtAt w' b L'->Below w0.heap.size w0 w'->Calls Tryz.prog 119 #[.pointer (some ⟨b,0,none⟩),.agg #[vp,.string (txtOf d.deg)]] w' fun e w2=>e=.returned (.tuple #[])/\CtO w0.heap.size b L' (d.deg.length+1+tot (d.pcs.map fun o=>o.1)) w' w2):=fun L' w' h' hb'=>crow_any w0 d.pcs d.deg vp hR.p hm.pcs hm.deg L' w' h' hB hb'
  have HAd:Hid (∀ L' w',CtAt w' b L'->Calls Tryz.prog 83 #[.pointer (some ⟨b,0,none⟩),.int .i64 (d.lits.length:Int)] w' fun e w2=>SomeB e/\CtO w0.heap.size b L' d.lits.length w' w2):=fun L' w' h'=>cadd_any L' d.lits.length w' h' hB hm.lits
  have HTs:Hid (∀ L' w',CtAt w' b L'->Below w0.heap.size w0 w'->Calls Tryz.prog 8 #[.pointer (some ⟨b,0,none⟩),vi] w' fun e w2=>e=.returned (.tuple #[])/\CtO w0.heap.size b L' (tot d.ids) w' w2):=fun L' w' h' hb'=>ctexts_any w0 d.ids vi hR.i hm.ids L' w' h' hB hb'
  obtain ⟨W,hW⟩:∃ W,w.alloc (.cells (slC d vo vp vl vi) 51)=W:=⟨_,rfl⟩;have hbW:Below w.heap.size w W:=by rw [<-hW];exact (Below.refl _ _).alloc (Nat.le_refl _) _
  have gW:W.heap[w.heap.size]?=some (.cells (slC d vo vp vl vi) 51 (0,0)):=by rw [<-hW];exact heap_alloc_new w _
  have HSW:Hid (SStp w0.heap.size (fun k=>k=b) w W):=SStp.of_below hbW (Nat.le_of_lt (Nat.lt_of_le_of_lt hB hbl));have HB:Hid (Below w0.heap.size w0 w):=hb;have HC0:Hid (CtAt W b L):=h.below hbW;have Hmn:Hid (d.n.length<=maxLen/\d.low.length<=maxLen/\d.high.length<=maxLen):=⟨hm.n,hm.low,hm.high⟩;obtain ⟨oa,oc,rfl,_,_⟩:=id hR.o;obtain ⟨pa,pc,rfl,_,_⟩:=id hR.p;obtain ⟨la,lc,rfl,_,_⟩:=id hR.l;obtain ⟨ia,ic,rfl,_,_⟩:=id hR.i;unfold slC at hW gW
  have HBx:Hid (∀ w',SStp w0.heap.size (fun k=>k=b) W w'->w'.cell? ⟨w.heap.size,0,none⟩=some (.int .i64 d.k)/\w'.cell? ⟨w.heap.size,1,none⟩=some (.string (txtOf d.n))/\w'.cell? ⟨w.heap.size,2,none⟩=some (.slice oa d.ops.length oc)/\w'.cell? ⟨w.heap.size,3,none⟩=some (.slice pa d.pcs.length pc)/\w'.cell? ⟨w.heap.size,4,none⟩=some (.string (txtOf d.deg))/\w'.cell? ⟨w.heap.size,5,none⟩=some (.slice la d.lits.length lc)/\w'.cell? ⟨w.heap.size,6,none⟩=some (.slice ia d.ids.length ic)/\w'.cell? ⟨w.heap.size,7,none⟩=some (.int .i64 d.ends)/\w'.cell? ⟨w.heap.size,8,none⟩=some (.string (txtOf d.low))/\w'.cell? ⟨w.heap.size,9,none⟩=some (.string (txtOf d.high))):=fun w' hs=>by
    have g:=(hs.off.block w.heap.size (Array.getElem?_eq_some_iff.1 gW).1 (fun e=>by have e':w.heap.size=b:=e;omega)).trans gW;exact ⟨cell_of g 0,cell_of g 1,cell_of g 2,cell_of g 3,cell_of g 4,cell_of g 5,cell_of g 6,cell_of g 7,cell_of g 8,cell_of g 9⟩
  obtain ⟨_,m1,m2,m3,m4,m5,m6,_,m8,m9⟩:=HBx.out W (SStp.refl _ _ _);unfold slC;clear hR hm hb h hbW gW;go_enter Tryz.func57,Tryz.ntmps57;go_wp2_with fail
  refine calls_at (HTe.out L d.n W HC0.out Hmn.out.1) (by with_reducible rfl) (by with_reducible rfl) ?_;rintro e w1 ⟨rfl,hq⟩;obtain ⟨L1,hq1,hq2,hq3⟩:=hq;have H1:Hid (CtAt w1 b L1/\(0<=L1->L1+(((d.n.length+1):Nat):Int)<=L)/\SStp w0.heap.size (fun k=>k=b) W w1):=⟨hq1,hq2,hq3⟩;clear hq1 hq2 hq3 m1 m2 m3 m4 m5 m6 m8 m9 hW;obtain ⟨_,m1,m2,m3,m4,m5,m6,_,m8,m9⟩:=HBx.out w1 H1.out.2.2;go_wp2_with fail
  refine calls_at (HTe.out L1 d.low w1 H1.out.1 Hmn.out.2.1) (by with_reducible rfl) (by with_reducible rfl) ?_;rintro e w2 ⟨rfl,hq⟩;obtain ⟨L2,hq1,hq2,hq3⟩:=CtO.next H1.out.2.1 H1.out.2.2 hq;have H2:Hid (CtAt w2 b L2/\(0<=L2->L2+(((d.n.length+1)+(d.low.length+1):Nat):Int)<=L)/\SStp w0.heap.size (fun k=>k=b) W w2):=⟨hq1,hq2,hq3⟩;clear hq hq1 hq2 hq3 m1 m2 m3 m4 m5 m6 m8 m9;obtain ⟨_,m1,m2,m3,m4,m5,m6,_,m8,m9⟩:=HBx.out w2 H2.out.2.2;go_wp2_with fail
  refine calls_at (HTe.out L2 d.high w2 H2.out.1 Hmn.out.2.2) (by with_reducible rfl) (by with_reducible rfl) ?_;rintro e w3 ⟨rfl,hq⟩;obtain ⟨L3,hq1,hq2,hq3⟩:=CtO.next H2.out.2.1 H2.out.2.2 hq;have H3:Hid (CtAt w3 b L3/\(0<=L3->L3+(((d.n.length+1)+(d.low.length+1)+(d.high.length+1):Nat):Int)<=L)/\SStp w0.heap.size (fun k=>k=b) W w3):=⟨hq1,hq2,hq3⟩;clear hq hq1 hq2 hq3 m1 m2 m3 m4 m5 m6 m8 m9;obtain ⟨_,m1,m2,m3,m4,m5,m6,_,m8,m9⟩:=HBx.out w3 H3.out.2.2;go_wp2_with fail
  refine calls_at (HOp.out L3 w3 H3.out.1 (HB.out.trans (HSW.out.below.trans H3.out.2.2.below))) (by with_reducible rfl) (by with_reducible rfl) ?_;rintro e w4 ⟨rfl,hq⟩;obtain ⟨L4,hq1,hq2,hq3⟩:=CtO.next H3.out.2.1 H3.out.2.2 hq;have H4:Hid (CtAt w4 b L4/\(0<=L4->L4+(((d.n.length+1)+(d.low.length+1)+(d.high.length+1)+tot (d.ops.map fun o=>o.2.1):Nat):Int)<=L)/\SStp w0.heap.size (fun k=>k=b) W w4):=⟨hq1,hq2,hq3⟩;clear hq hq1 hq2 hq3 m1 m2 m3 m4 m5 m6 m8 m9;obtain ⟨_,m1,m2,m3,m4,m5,m6,_,m8,m9⟩:=HBx.out w4 H4.out.2.2;go_wp2_with fail
  refine calls_at (HRw.out L4 w4 H4.out.1 (HB.out.trans (HSW.out.below.trans H4.out.2.2.below))) (by with_reducible rfl) (by with_reducible rfl) ?_;rintro e w5 ⟨rfl,hq⟩;obtain ⟨L5,hq1,hq2,hq3⟩:=CtO.next H4.out.2.1 H4.out.2.2 hq;have H5:Hid (CtAt w5 b L5/\(0<=L5->L5+(((d.n.length+1)+(d.low.length+1)+(d.high.length+1)+tot (d.ops.map fun o=>o.2.1)+(d.deg.length+1+tot (d.pcs.map fun o=>o.1)):Nat):Int)<=L)/\SStp w0.heap.size (fun k=>k=b) W w5):=⟨hq1,hq2,hq3⟩;clear hq hq1 hq2 hq3 m1 m2 m3 m4 m5 m6 m8 m9;obtain ⟨_,m1,m2,m3,m4,m5,m6,_,m8,m9⟩:=HBx.out w5 H5.out.2.2;go_wp2_with fail
  refine calls_at (HAd.out L5 w5 H5.out.1) (by with_reducible rfl) (by with_reducible rfl) ?_;rintro e w6 ⟨⟨bo,rfl⟩,hq⟩;obtain ⟨L6,hq1,hq2,hq3⟩:=CtO.next H5.out.2.1 H5.out.2.2 hq;have H6:Hid (CtAt w6 b L6/\(0<=L6->L6+(((d.n.length+1)+(d.low.length+1)+(d.high.length+1)+tot (d.ops.map fun o=>o.2.1)+(d.deg.length+1+tot (d.pcs.map fun o=>o.1))+d.lits.length:Nat):Int)<=L)/\SStp w0.heap.size (fun k=>k=b) W w6):=⟨hq1,hq2,hq3⟩;clear hq hq1 hq2 hq3 m1 m2 m3 m4 m5 m6 m8 m9;obtain ⟨_,m1,m2,m3,m4,m5,m6,_,m8,m9⟩:=HBx.out w6 H6.out.2.2;go_wp2_with fail
  refine calls_at (HTs.out L6 w6 H6.out.1 (HB.out.trans (HSW.out.below.trans H6.out.2.2.below))) (by with_reducible rfl) (by with_reducible rfl) ?_;rintro e w7 ⟨rfl,hq⟩;obtain ⟨L7,hq1,hq2,hq3⟩:=CtO.next H6.out.2.1 H6.out.2.2 hq;have H7:Hid (CtAt w7 b L7/\(0<=L7->L7+(((d.n.length+1)+(d.low.length+1)+(d.high.length+1)+tot (d.ops.map fun o=>o.2.1)+(d.deg.length+1+tot (d.pcs.map fun o=>o.1))+d.lits.length+tot d.ids:Nat):Int)<=L)/\SStp w0.heap.size (fun k=>k=b) W w7):=⟨hq1,hq2,hq3⟩;clear hq hq1 hq2 hq3 m1 m2 m3 m4 m5 m6 m8 m9;obtain ⟨_,m1,m2,m3,m4,m5,m6,_,m8,m9⟩:=HBx.out w7 H7.out.2.2;go_wp2_with fail
  go_end0;exact ⟨rfl,L7,H7.out.1,H7.out.2.1,HSW.out.trans H7.out.2.2⟩
end Go.Proofs.YtpcijhecaedkpaaGreatDoor

namespace Go.Proofs.YtpcijhecaedkpaaGreatDoor
open Go.RowKit
set_option maxRecDepth 10000
set_option maxHeartbeats 8000000
def wtS (ds:List SL):Nat:=(ds.map stW).sum
theorem wtS_snoc (ds:List SL) (i:Nat) (hi:i<ds.length):wtS (ds.take (i+1))=wtS (ds.take i)+stW ds[i]:=by
  unfold wtS;rw [List.take_succ_eq_append_getElem hi,List.map_append,List.sum_append];simp only [List.map_cons,List.map_nil,List.sum_cons,List.sum_nil,Nat.add_zero]
theorem csteps_any (w0:World) (ds:List SL) (v:Value) (hR:StsR w0 v ds) (hm:∀ d∈ds,SlM d) {b:Nat} (L:Int) (w:World) (h:CtAt w b L) (hB:w0.heap.size<=b) (hb:Below w0.heap.size w0 w):Calls Tryz.prog 16 #[.pointer (some ⟨b,0,none⟩),v] w fun e w'=>e=.returned (.tuple #[])/\CtO w0.heap.size b L (wtS ds) w w':=by
  obtain ⟨a,c,rfl,hn,_⟩:=id hR;have HR:Hid (StsR w0 (.slice a ds.length c) ds):=hR;have HM:Hid (∀ d∈ds,SlM d):=hm;have HB:Hid (Below w0.heap.size w0 w):=hb;have HC0:Hid (CtAt w b L):=h;have HSt:Hid (∀ d∈ds,∀ vo vp vl vi L' w',CtAt w' b L'->Below w0.heap.size w0 w'->SlR w0 d vo vp vl vi->Calls Tryz.prog 57 #[.pointer (some ⟨b,0,none⟩),.agg (slC d vo vp vl vi)] w' fun e w2=>e=.returned (.tuple #[])/\CtO w0.heap.size b L' (stW d) w' w2):=fun d hd vo vp vl vi L' w' h' hb' hs=>cstep_any w0 d vo vp vl vi hs (hm d hd) L' w' h' hB hb'
  have HOk:Hid (∀ L' w',CtAt w' b L'->Calls Tryz.prog 9 #[.pointer (some ⟨b,0,none⟩)] w' fun e w2=>e=.returned (.bool (decide (0<=L')))/\w2=w'):=fun L' w' h'=>cok_any b L' w' h'
  clear hR hm hb h;go_enter Tryz.func16,Tryz.ntmps16;go_wp2_with fail
  go_loopw [4] (fun iv wr=>∃ i:Nat,iv=.int .i64 (i:Int)/\i<=ds.length/\Hid (CtO w0.heap.size b L (wtS (ds.take i)) w wr)) (fun iv _=>ds.length-(intOf iv).toNat)
  case atStart=>exact ⟨0,rfl,Nat.zero_le _,L,HC0.out,fun _=>by simp [wtS],SStp.refl _ _ _⟩
  case round=>
    obtain ⟨i,rfl,hi,HI⟩:=hrel;obtain ⟨Lr,k1,k2,k3⟩:=HI.out;have HK:Hid (CtAt wr b Lr/\(0<=Lr->Lr+((wtS (ds.take i):Nat):Int)<=L)/\SStp w0.heap.size (fun k=>k=b) w wr):=⟨k1,k2,k3⟩;clear k1 k2 k3
    by_cases hin:i<ds.length
    · have hiI:(i:Int)<(ds.length:Int):=by omega
      go_wp2_with fail
      refine calls_at (HOk.out Lr wr HK.out.1) (by with_reducible rfl) (by with_reducible rfl) ?_;rintro e w1 ⟨rfl,hw1⟩;rw [hw1];clear hw1
      by_cases hL:0<=Lr
      · rw [decide_eq_true hL]
        have hbr:Below w0.heap.size w0 wr:=HB.out.trans HK.out.2.2.below;obtain ⟨a',c',z1,_,z3⟩:=HR.out;obtain ⟨rfl,_,rfl⟩:a=a'/\ds.length=ds.length/\c=c':=by simpa using z1
        obtain ⟨g,off,vo,vp,vl,vi,rfl,hgl,hsl,hce0⟩:=z3 i hin;have hce:=fun j hj=>(hbr.cell (p:=⟨g,off+i*10+j,none⟩) hgl).trans (hce0 j hj)
        have HCl0:=HSt.out ds[i] (List.getElem_mem hin) vo vp vl vi Lr wr HK.out.1 hbr hsl;have hts:=wtS_snoc ds i hin;obtain ⟨d,hd⟩:∃ d,ds[i]=d:=⟨_,rfl⟩;rw [hd] at hsl hce HCl0 hts;obtain ⟨oa,oc,rfl,_,_⟩:=id hsl.o;obtain ⟨pa,pc,rfl,_,_⟩:=id hsl.p;obtain ⟨la,lc,rfl,_,_⟩:=id hsl.l;obtain ⟨ia,ic,rfl,_,_⟩:=id hsl.i;have q0:wr.cell? ⟨g,off+i*10,none⟩=some (.int .i64 d.k):=hce 0 (by omega);have q1:wr.cell? ⟨g,off+i*10+1,none⟩=some (.string (txtOf d.n)):=hce 1 (by omega);have q2:wr.cell? ⟨g,off+i*10+2,none⟩=some (.slice oa d.ops.length oc):=hce 2 (by omega);have q3:wr.cell? ⟨g,off+i*10+3,none⟩=some (.slice pa d.pcs.length pc):=hce 3 (by omega);have q4:wr.cell? ⟨g,off+i*10+4,none⟩=some (.string (txtOf d.deg)):=hce 4 (by omega)
        have q5:wr.cell? ⟨g,off+i*10+5,none⟩=some (.slice la d.lits.length lc):=hce 5 (by omega);have q6:wr.cell? ⟨g,off+i*10+6,none⟩=some (.slice ia d.ids.length ic):=hce 6 (by omega);have q7:wr.cell? ⟨g,off+i*10+7,none⟩=some (.int .i64 d.ends):=hce 7 (by omega);have q8:wr.cell? ⟨g,off+i*10+8,none⟩=some (.string (txtOf d.low)):=hce 8 (by omega);have q9:wr.cell? ⟨g,off+i*10+9,none⟩=some (.string (txtOf d.high)):=hce 9 (by omega)
        have HCl:Hid (Calls Tryz.prog 57 #[.pointer (some ⟨b,0,none⟩),.agg #[.int .i64 d.k,.string (txtOf d.n),.slice oa d.ops.length oc,.slice pa d.pcs.length pc,.string (txtOf d.deg),.slice la d.lits.length lc,.slice ia d.ids.length ic,.int .i64 d.ends,.string (txtOf d.low),.string (txtOf d.high)]] wr fun e w2=>e=.returned (.tuple #[])/\CtO w0.heap.size b Lr (stW d) wr w2):=HCl0;have HTs:Hid (wtS (ds.take (i+1))=wtS (ds.take i)+stW d):=hts;clear hce hce0 hsl hgl hd hts HCl0 z3 hbr z1;go_wp2_with fail
        refine calls_at HCl.out (by with_reducible rfl) (by with_reducible rfl) ?_;rintro e w2 ⟨rfl,h2⟩;have HE:Hid (CtO w0.heap.size b L (wtS (ds.take (i+1))) w w2):=by rw [HTs.out];exact CtO.next HK.out.2.1 HK.out.2.2 h2
        clear h2;go_wp2_with fail
        go_roundw
        case rel=>exact ⟨i+1,by go_num,hin,HE⟩
        case measure=>simp [intOf];omega
      · rw [decide_eq_false hL]
        have HE:Hid (CtO w0.heap.size b L (wtS ds) w wr):=⟨Lr,HK.out.1,fun h=>absurd h hL,HK.out.2.2⟩;go_wp2_with fail
        go_end0;exact ⟨rfl,HE.out⟩
    · have hiI:¬ (i:Int)<(ds.length:Int):=by omega
      have HE:Hid (CtO w0.heap.size b L (wtS ds) w wr):=by
        have:=HI.out;rw [List.take_of_length_le (by omega)] at this;exact this
      go_wp2_with fail
      go_end0;exact ⟨rfl,HE.out⟩
end Go.Proofs.YtpcijhecaedkpaaGreatDoor

namespace Go.Proofs.YtpcijhecaedkpaaGreatDoor
open Go.RowKit
theorem dec_len:∀ (k u:Nat),u<10 ^ (k+1)->(Lib.decDigits u).length<=k+1:=by
  intro k
  induction k with
  | zero=>intro u h;rw [Lib.decDigits,dif_pos (by simpa using h)];simp
  | succ k ih =>
    intro u h;rw [Lib.decDigits]
    split
    · simp
    · have:u / 10<10 ^ (k+1):=by
        rw [Nat.pow_succ] at h;omega
      have:=ih _ this;simp;omega
theorem lit_len {n:Int} (h0:-9223372036854775808<=n) (h1:n<=9223372036854775807):(litT n).length<=22:=by
  have key:(Lib.itoa n).length<=20:=by
    unfold Lib.itoa
    split
    · have := dec_len 18 n.natAbs (by have e : (10 : Nat) ^ (18 + 1) = 10000000000000000000 := by decide
                                      rw [e];omega)
      simp;omega
    · have := dec_len 18 n.toNat (by have e : (10 : Nat) ^ (18 + 1) = 10000000000000000000 := by decide
                                     rw [e];omega)
      omega
  have h2:(Lib.trimPrefix (Lib.itoa n) [45]).length<=20:=by
    unfold Lib.trimPrefix
    split
    · rw [List.length_drop];omega
    · exact key
  unfold litT
  split <;> simp <;> omega
theorem opT_len (o:OpL) (h:-9223372036854775808<=o.2.2/\o.2.2<=9223372036854775807):tot (opT o)<=o.2.1.length+1+24:=by
  have hl:=lit_len h.1 h.2;unfold opT
  repeat' split
  all_goals simp [tot]
  all_goals omega
theorem opsT_len (L:List OpL) (h:∀ o∈L,-9223372036854775808<=o.2.2/\o.2.2<=9223372036854775807):tot (opsT L)<=25*tot (L.map fun o=>o.2.1):=by
  induction L with
  | nil=>simp [opsT,tot]
  | cons o L ih =>
    have h1:=opT_len o (h o List.mem_cons_self);have h2:=ih fun p hp=>h p (List.mem_cons_of_mem _ hp)
    have e:opsT (o :: L)=opT o++opsT L:=by simp [opsT]
    rw [e,tot_app,List.map_cons,tot_cons];omega
theorem pcsT_len (L:List PcL) (h:∀ o∈L,-9223372036854775808<=o.2/\o.2<=9223372036854775807):tot (pcsT L)<=25*tot (L.map fun o=>o.1):=by
  induction L with
  | nil=>simp [pcsT,tot]
  | cons o L ih =>
    have h1:=lit_len (h o List.mem_cons_self).1 (h o List.mem_cons_self).2;have h2:=ih fun p hp=>h p (List.mem_cons_of_mem _ hp)
    have e:pcsT (o :: L)=[o.1,litT o.2]++pcsT L:=by simp [pcsT]
    rw [e,tot_app,List.map_cons,tot_cons];simp only [tot_cons];have e0:tot []=0:=rfl;omega
theorem rowT_len (L:List PcL) (deg:List UInt8) (h:∀ o∈L,-9223372036854775808<=o.2/\o.2<=9223372036854775807):tot (rowT L deg)<=25*tot (L.map fun o=>o.1)+deg.length+6:=by
  have:=pcsT_len L h;unfold rowT;rw [tot_app];simp only [tot_cons];have e0:tot []=0:=rfl;have e1:([62,61]:List UInt8).length=2:=rfl;have e2:([59]:List UInt8).length=1:=rfl;omega
theorem litsT_len (L:List Int) (h:∀ o∈L,-9223372036854775808<=o/\o<=9223372036854775807):tot (L.map litT)<=23*L.length:=by
  induction L with
  | nil=>simp [tot]
  | cons o L ih =>
    have h1:=lit_len (h o List.mem_cons_self).1 (h o List.mem_cons_self).2;have h2:=ih fun p hp=>h p (List.mem_cons_of_mem _ hp)
    rw [List.map_cons,tot_cons,List.length_cons];omega
theorem leanT_len (L:List (List UInt8)):tot (leanT L)<=2+tot L:=by
  unfold leanT
  split
  · simp [tot]
  · rw [tot_cons];simp
theorem kind_none (T:List FmL) (wr:FuncId->SL->List (List UInt8)) (k:Int) (d:SL) (h:∀ f∈T,f.1≠k):kindT T wr k d=[]:=by
  unfold kindT;rw [List.flatMap_eq_nil_iff];intro f hf;rw [if_neg (h f hf)]
theorem claims_len (f:FmL) (hf:f∈claimsL):f.2.1.length<=6:=by
  simp only [claimsL,List.mem_cons,List.not_mem_nil,or_false] at hf
  rcases hf with rfl | rfl | rfl | rfl | rfl <;> decide
theorem forms_len (f:FmL) (hf:f∈formsL):f.2.1.length<=32:=by
  simp only [formsL,List.mem_cons,List.not_mem_nil,or_false] at hf
  rcases hf with rfl | rfl | rfl | rfl | rfl | rfl | rfl | rfl | rfl | rfl | rfl | rfl <;> decide
theorem ends_len (d:SL):tot (kindT claimsL wrC d.ends d)<=9+(d.low.length+1)+(d.high.length+1)+tot d.ids:=by
  by_cases h:∃ f∈claimsL,f.1=d.ends
  · obtain ⟨f,hf,hk⟩:=h
    rw [<-hk,claims_kind f hf,tot_cons];have h1:=claims_len f hf;have h2:=leanT_len d.ids;have h3:tot (wrC f.2.2.2 d)<=2+(d.low.length+1)+(d.high.length+1)+tot d.ids:=by
      unfold wrC;have e0:tot []=0:=rfl
      repeat' split
      all_goals (try rw [tot_app])
      all_goals (try simp only [tot_cons,e0])
      all_goals omega
    omega
  · rw [kind_none claimsL wrC d.ends d fun f hf e=>h ⟨f,hf,e⟩]
    simp [tot]
theorem lnW_len (d:SL) (hi:SlI d):tot (lnW d)<=36*stW d:=by
  have hW:4<=stW d:=by unfold stW;omega
  have key:tot (lnW d)<=42+25*stW d:=by
    unfold lnW
    by_cases h:∃ f∈formsL,f.1=d.k
    · obtain ⟨f,hf,hk⟩:=h
      rw [<-hk,forms_kind f hf,tot_cons];have h1:=forms_len f hf;have a1:=opsT_len d.ops hi.o;have a2:=rowT_len d.pcs d.deg hi.p;have a3:=litsT_len d.lits hi.l;have a4:=ends_len d;have e0:tot []=0:=rfl;have h3:tot (wrF f.2.2.2 d)<=9+25*stW d:=by
        unfold wrF stW
        repeat' split
        all_goals (try rw [tot_app])
        all_goals (try simp only [tot_cons,e0])
        all_goals omega
      omega
    · rw [kind_none formsL wrF d.k d fun f hf e=>h ⟨f,hf,e⟩]
      simp [tot]
  omega
theorem wt_mem {ds:List SL} {d:SL} (h:d∈ds):stW d<=wtS ds:=by
  induction ds with
  | nil=>exact absurd h List.not_mem_nil
  | cons x ds ih =>
    have e:wtS (x :: ds)=stW x+wtS ds:=by simp [wtS]
    rw [e];rcases List.mem_cons.1 h with rfl | h
    · omega
    · have:=ih h;omega
end Go.Proofs.YtpcijhecaedkpaaGreatDoor

namespace Go.Proofs.YtpcijhecaedkpaaGreatDoor
open Go.RowKit
set_option maxRecDepth 10000
set_option maxHeartbeats 8000000
theorem print_any (d:SL) (vo vp vl vi:Value) (w:World) (hs:SlR w d vo vp vl vi) (hi:SlI d) (hl:tot (lnW d)<=9000000) (hg:Gl w) (hB:12<=w.heap.size):Calls Tryz.prog 19 #[.agg (slC d vo vp vl vi)] w (PrO d w):=by
  unfold PrO;obtain ⟨W,hW⟩:∃ W,w.alloc (.cells (slC d vo vp vl vi) 51)=W:=⟨_,rfl⟩;have hbW:Below w.heap.size w W:=by rw [<-hW];exact (Below.refl _ _).alloc (Nat.le_refl _) _
  have gW:W.heap[w.heap.size]?=some (.cells (slC d vo vp vl vi) 51 (0,0)):=by rw [<-hW];exact heap_alloc_new w _
  have hlt:w.heap.size<W.heap.size:=(Array.getElem?_eq_some_iff.1 gW).1;obtain ⟨x,hx⟩:∃ x,lnT d=x:=⟨_,rfl⟩;have hxl:x.length<=9000000:=by
    have:=words_len (lnW d) [];have e:wordsP (lnW d) []=x:=hx;rw [e] at this;simp at this;omega
  have HWr:Hid (Calls Tryz.prog 60 #[.agg (slC d vo vp vl vi)] W fun e w'=>e=.returned (.string (txtOf x))/\Below W.heap.size W w'):=by
    have:=write_any d (tabF d.k) vo vp vl vi W (hs.below hbW).e hi (by unfold lnW at hl;omega) (Nat.le_refl _) (hg.next hbW) (by omega);have e:wordsP (kindT formsL wrF d.k d) []=x:=hx;rw [e] at this;exact this
  obtain ⟨G,hG⟩:∃ G,gd x=G:=⟨_,rfl⟩;obtain ⟨E,hE⟩:∃ E,er x=E:=⟨_,rfl⟩;have HPa:Hid (∀ w',Below W.heap.size W w'->Calls Tryz.prog 11 #[.string (txtOf x)] w' fun e w2=>∃ oa2 oc2 pa2 pc2 la2 lc2 ia2 ic2,e=.returned (.tuple #[.agg #[.int .i64 G.k,.string (txtOf G.n),.slice oa2 G.ops.length oc2,.slice pa2 G.pcs.length pc2,.string (txtOf G.deg),.slice la2 G.lits.length lc2,.slice ia2 G.ids.length ic2,.int .i64 G.ends,.string (txtOf G.low),.string (txtOf G.high)],.int .i64 E])/\SlR w2 G (.slice oa2 G.ops.length oc2) (.slice pa2 G.pcs.length pc2) (.slice la2 G.lits.length lc2) (.slice ia2 G.ids.length ic2)/\Below w'.heap.size w' w2):=fun w' hb=>by
    have:=parse_out x hxl w' ((hg.next hbW).below hb (by omega));rw [hG,hE] at this;exact this
  have HSm:Hid (∀ w' vo2 vp2 vl2 vi2,Below w.heap.size w w'->SlR w' G vo2 vp2 vl2 vi2->Calls Tryz.prog 61 #[.agg (slC G vo2 vp2 vl2 vi2),.agg (slC d vo vp vl vi)] w' fun e w2=>e=.returned (.bool (sameB G d))/\Below w'.heap.size w' w2):=fun w' vo2 vp2 vl2 vi2 hb h2=>psame_any G d _ _ _ _ _ _ _ _ w' h2 (hs.below hb)
  have hPx:parseP x=(G,E):=by rw [<-hG,<-hE];rfl
  have HYes:Hid (G=d->E=0->prT d=(x,0)):=fun e1 e2=>by rw [<-hx];exact prT_yes (by rw [hx,hPx,e1,e2])
  have HNo:Hid ((E≠0∨G≠d)->prT d=([],83)):=fun h=>prT_no (by
    rw [hx,hPx];intro e;rcases h with h | h
    · exact h (Prod.ext_iff.1 e).2
    · exact h (Prod.ext_iff.1 e).1)
  have HBW:Hid (Below w.heap.size w W):=hbW;have HMx:Hid (∀ w',Below W.heap.size W w'->w'.heap[w.heap.size]?=some (.cells (slC d vo vp vl vi) 51 (0,0))):=fun w' hb=>(hb.block _ hlt).trans gW
  obtain ⟨oa,oc,rfl,_,_⟩:=id hs.o;obtain ⟨pa,pc,rfl,_,_⟩:=id hs.p;obtain ⟨la,lc,rfl,_,_⟩:=id hs.l;obtain ⟨ia,ic,rfl,_,_⟩:=id hs.i;unfold slC at hW HWr HMx gW
  have HM:Hid (∀ w',Below W.heap.size W w'->w'.cell? ⟨w.heap.size,0,none⟩=some (.int .i64 d.k)/\w'.cell? ⟨w.heap.size,1,none⟩=some (.string (txtOf d.n))/\w'.cell? ⟨w.heap.size,2,none⟩=some (.slice oa d.ops.length oc)/\w'.cell? ⟨w.heap.size,3,none⟩=some (.slice pa d.pcs.length pc)/\w'.cell? ⟨w.heap.size,4,none⟩=some (.string (txtOf d.deg))/\w'.cell? ⟨w.heap.size,5,none⟩=some (.slice la d.lits.length lc)/\w'.cell? ⟨w.heap.size,6,none⟩=some (.slice ia d.ids.length ic)/\w'.cell? ⟨w.heap.size,7,none⟩=some (.int .i64 d.ends)/\w'.cell? ⟨w.heap.size,8,none⟩=some (.string (txtOf d.low))/\w'.cell? ⟨w.heap.size,9,none⟩=some (.string (txtOf d.high))):=fun w' hb=>by
    have g:=HMx.out w' hb;exact ⟨cell_of g 0,cell_of g 1,cell_of g 2,cell_of g 3,cell_of g 4,cell_of g 5,cell_of g 6,cell_of g 7,cell_of g 8,cell_of g 9⟩
  unfold slC;obtain ⟨m0,m1,m2,m3,m4,m5,m6,m7,m8,m9⟩:=HM.out W (Below.refl _ _);obtain ⟨X,hX⟩:∃ X,txtOf x=X:=⟨_,rfl⟩;have HX:Hid (txtOf x=X):=hX;rw [hX] at HWr HPa;clear hs hi hl hx hg hbW gW hlt hxl HMx hX hG hE hPx;go_enter Tryz.func19,Tryz.ntmps19;go_wp2_with fail
  refine calls_at HWr.out (by with_reducible rfl) (by with_reducible rfl) ?_;rintro e w1 ⟨rfl,hb1⟩;have HB1:Hid (Below W.heap.size W w1):=hb1;clear hb1 m0 m1 m2 m3 m4 m5 m6 m7 m8 m9;go_wp2_with fail
  refine calls_at (HPa.out w1 HB1.out) (by with_reducible rfl) (by with_reducible rfl) ?_;rintro e w2 ⟨oa2,oc2,pa2,pc2,la2,lc2,ia2,ic2,rfl,h2,hb2⟩;have H2:Hid (SlR w2 G (.slice oa2 G.ops.length oc2) (.slice pa2 G.pcs.length pc2) (.slice la2 G.lits.length lc2) (.slice ia2 G.ids.length ic2)):=h2;have HB2:Hid (Below W.heap.size W w2):=bl_next HB1.out hb2;clear hb2 h2;obtain ⟨V,hV⟩:∃ V,w2.alloc (.cells #[.int .i64 G.k,.string (txtOf G.n),.slice oa2 G.ops.length oc2,.slice pa2 G.pcs.length pc2,.string (txtOf G.deg),.slice la2 G.lits.length lc2,.slice ia2 G.ids.length ic2,.int .i64 G.ends,.string (txtOf G.low),.string (txtOf G.high)] 51)=V:=⟨_,rfl⟩;have hbV:Below w2.heap.size w2 V:=by rw [<-hV];exact (Below.refl _ _).alloc (Nat.le_refl _) _
  have gV:V.heap[w2.heap.size]?=some (.cells #[.int .i64 G.k,.string (txtOf G.n),.slice oa2 G.ops.length oc2,.slice pa2 G.pcs.length pc2,.string (txtOf G.deg),.slice la2 G.lits.length lc2,.slice ia2 G.ids.length ic2,.int .i64 G.ends,.string (txtOf G.low),.string (txtOf G.high)] 51 (0,0)):=by rw [<-hV];exact heap_alloc_new w2 _
  have HBV:Hid (Below W.heap.size W V):=bl_next HB2.out hbV;obtain ⟨m0,m1,m2,m3,m4,m5,m6,m7,m8,m9⟩:=HM.out V HBV.out;obtain ⟨n0,n1,n2,n3,n4,n5,n6,n7,n8,n9⟩:V.cell? ⟨w2.heap.size,0,none⟩=some (.int .i64 G.k)/\V.cell? ⟨w2.heap.size,1,none⟩=some (.string (txtOf G.n))/\V.cell? ⟨w2.heap.size,2,none⟩=some (.slice oa2 G.ops.length oc2)/\V.cell? ⟨w2.heap.size,3,none⟩=some (.slice pa2 G.pcs.length pc2)/\V.cell? ⟨w2.heap.size,4,none⟩=some (.string (txtOf G.deg))/\V.cell? ⟨w2.heap.size,5,none⟩=some (.slice la2 G.lits.length lc2)/\V.cell? ⟨w2.heap.size,6,none⟩=some (.slice ia2 G.ids.length ic2)/\V.cell? ⟨w2.heap.size,7,none⟩=some (.int .i64 G.ends)/\V.cell? ⟨w2.heap.size,8,none⟩=some (.string (txtOf G.low))/\V.cell? ⟨w2.heap.size,9,none⟩=some (.string (txtOf G.high)):=by
    have g:=gV;exact ⟨cell_of g 0,cell_of g 1,cell_of g 2,cell_of g 3,cell_of g 4,cell_of g 5,cell_of g 6,cell_of g 7,cell_of g 8,cell_of g 9⟩
  have HS2:Hid (Calls Tryz.prog 61 #[.agg #[.int .i64 G.k,.string (txtOf G.n),.slice oa2 G.ops.length oc2,.slice pa2 G.pcs.length pc2,.string (txtOf G.deg),.slice la2 G.lits.length lc2,.slice ia2 G.ids.length ic2,.int .i64 G.ends,.string (txtOf G.low),.string (txtOf G.high)],.agg #[.int .i64 d.k,.string (txtOf d.n),.slice oa d.ops.length oc,.slice pa d.pcs.length pc,.string (txtOf d.deg),.slice la d.lits.length lc,.slice ia d.ids.length ic,.int .i64 d.ends,.string (txtOf d.low),.string (txtOf d.high)]] V fun e w2=>e=.returned (.bool (sameB G d))/\Below V.heap.size V w2):=HSm.out V _ _ _ _ (HBW.out.trans (HBV.out.mono HBW.out.size)) (H2.out.below hbV);clear hbV gV
  by_cases hE0:E=0
  · have hEB:(E != 0)=false:=by rw [hE0];rfl
    have HE0:Hid (E=0):=hE0;clear hE0;go_wp2_with fail
    refine calls_at HS2.out (by with_reducible rfl) (by with_reducible rfl) ?_;rintro e w3 ⟨rfl,hb3⟩;have HB3:Hid (Below W.heap.size W w3):=bl_next HBV.out hb3;clear hb3 m0 m1 m2 m3 m4 m5 m6 m7 m8 m9 n0 n1 n2 n3 n4 n5 n6 n7 n8 n9
    by_cases hq:G=d
    · have HR:Hid (prT d=(x,0)):=HYes.out hq HE0.out
      rw [(sameB_iff G d).2 hq];clear hq;go_wp2_with fail
      go_ret2;refine ⟨?_,HBW.out.trans (HB3.out.mono HBW.out.size)⟩;rw [HR.out];show _=Ending.returned (.tuple #[.string (txtOf x),.int .i64 0]);rw [HX.out];rfl
    · have HR:Hid (prT d=([],83)):=HNo.out (.inr hq)
      rw [sameB_no hq];clear hq;go_wp2_with fail
      go_ret2;refine ⟨?_,HBW.out.trans (HB3.out.mono HBW.out.size)⟩;rw [HR.out];rfl
  · have hEB:(E != 0)=true:=by simpa using hE0
    have HR:Hid (prT d=([],83)):=HNo.out (.inl hE0);clear hE0;go_wp2_with fail
    go_ret2;refine ⟨?_,HBW.out.trans (HBV.out.mono HBW.out.size)⟩;rw [HR.out];rfl
end Go.Proofs.YtpcijhecaedkpaaGreatDoor

namespace Go.Proofs.YtpcijhecaedkpaaGreatDoor
open Go.RowKit
theorem Rd0.free {S:Lab} {w:World} {v:Value} {n:Nat} {xs:List Value} {b:Nat} (h:Rd0 S w v n xs) (hb:S b=160):Rd0 (fun k=>if k=b then 0 else S k) w v n xs:=fun S2 w2 ha=>
  h (fun k=>if k=b then 160 else S2 k) w2 ⟨ha.os,ha.tape,ha.output,ha.size,fun k hk=>by
    by_cases e:k=b
    · simp [e,hb]
    · have:=ha.lab k hk
      simp [e] at this ⊢;exact this,fun k hk h0=>ha.block k hk (by
    by_cases e:k=b
    · simp [e]
    · simp only [e,if_false];exact h0)⟩
theorem Sl0.free {S:Lab} {w:World} {d:SL} {vo vp vl vi:Value} {b:Nat} (h:Sl0 S w d vo vp vl vi) (hb:S b=160):Sl0 (fun k=>if k=b then 0 else S k) w d vo vp vl vi:=⟨h.1.free hb,h.2.1.free hb,h.2.2.1.free hb,h.2.2.2.free hb⟩
theorem Rd0.mkl {S:Lab} {w:World} {v:Value} {n:Nat} {xs:List Value} {b l:Nat} (h:Rd0 S w v n xs) (hb:S b=0) (hl:1000<=l):Rd0 (mk1 S b l) w v n xs:=fun S2 w2 ha=>
  h (mk1 S2 b 0) w2 ⟨ha.os,ha.tape,ha.output,ha.size,fun k hk=>by
    by_cases e:k=b
    · rw [e,mk1_at,hb]
    · have:=ha.lab k hk
      rw [mk1_ne e] at this ⊢;exact this,fun k hk h0=>ha.block k hk (by
    by_cases e:k=b
    · rw [e,mk1_at];exact .inr hl
    · rw [mk1_ne e];exact h0)⟩
theorem Sl0.mkl {S:Lab} {w:World} {d:SL} {vo vp vl vi:Value} {b l:Nat} (h:Sl0 S w d vo vp vl vi) (hb:S b=0) (hl:1000<=l):Sl0 (mk1 S b l) w d vo vp vl vi:=⟨h.1.mkl hb hl,h.2.1.mkl hb hl,h.2.2.1.mkl hb hl,h.2.2.2.mkl hb hl⟩
theorem Lb.mkl {S:Lab} {w:World} {f c n b l:Nat} (h:Lb S w f c n) (hb:S b=0):Lb (mk1 S b l) w f c n:=⟨by rw [mk1_ne (fun e=>by have:=h.1;rw [e,hb] at this;unfold lb at this;omega)];exact h.1,h.2⟩
theorem Lb.free {S:Lab} {w:World} {f c n b:Nat} (h:Lb S w f c n) (hb:S b=160):Lb (fun k=>if k=b then 0 else S k) w f c n:=⟨by show (if c=b then 0 else S c)=_;rw [if_neg (fun e=>by have:=h.1;rw [e,hb] at this;unfold lb at this;omega)];exact h.1,h.2⟩
theorem SlB.mkl {S:Lab} {w:World} {s:Sv} {b l:Nat} (h:SlB S w s) (hb:S b=0) (hl:1000<=l):SlB (mk1 S b l) w s:=by
  obtain ⟨h0,bO,bP,bL,bI,e1,e2,e3,e4,h1,h2,h3,h4⟩:=h;exact ⟨h0.mkl hb hl,bO,bP,bL,bI,e1,e2,e3,e4,h1.mkl hb,h2.mkl hb,h3.mkl hb,h4.mkl hb⟩
theorem SlB.free {S:Lab} {w:World} {s:Sv} {b:Nat} (h:SlB S w s) (hb:S b=160):SlB (fun k=>if k=b then 0 else S k) w s:=by
  obtain ⟨h0,bO,bP,bL,bI,e1,e2,e3,e4,h1,h2,h3,h4⟩:=h;exact ⟨h0.free hb,bO,bP,bL,bI,e1,e2,e3,e4,h1.free hb,h2.free hb,h3.free hb,h4.free hb⟩
def St0 (S:Lab) (w:World) (v:Value) (ds:List SL):Prop:=∃ a c,v=.slice a ds.length c/\ds.length<=9223372036854775807/\∀ i (hi:i<ds.length),∃ g off vo vp vl vi,a=some ⟨g,off,none⟩/\g<w.heap.size/\(S g=0∨1000<=S g)/\Sl0 S w ds[i] vo vp vl vi/\∀ j,j<10->w.cell? ⟨g,off+i*10+j,none⟩=(slC ds[i] vo vp vl vi)[j]?
theorem St0.agree {S S':Lab} {w w':World} {v:Value} {ds:List SL} (h:St0 S w v ds) (ha:Agree S S' w w'):St0 S' w' v ds:=by
  obtain ⟨a,c,h1,h2,h3⟩:=h;refine ⟨a,c,h1,h2,fun i hi=>?_⟩;obtain ⟨g,off,vo,vp,vl,vi,e1,e2,e3,e4,e5⟩:=h3 i hi;exact ⟨g,off,vo,vp,vl,vi,e1,Nat.lt_of_lt_of_le e2 ha.size,by rw [ha.lab g e2];exact e3,e4.agree ha,fun j hj=>(ha.cell (a:=⟨g,_,none⟩) e2 e3).trans (e5 j hj)⟩
theorem St0.now {S:Lab} {w:World} {v:Value} {ds:List SL} (h:St0 S w v ds):StsR w v ds:=by
  obtain ⟨a,c,h1,h2,h3⟩:=h;refine ⟨a,c,h1,h2,fun i hi=>?_⟩;obtain ⟨g,off,vo,vp,vl,vi,e1,e2,e3,e4,e5⟩:=h3 i hi;exact ⟨g,off,vo,vp,vl,vi,e1,e2,e4.now,e5⟩
theorem rd0_in {S:Lab} {w W:World} {v:Value} {n:Nat} {xs:List Value} (h:RdAt w v n xs) (hb:Below w.heap.size w W) (hS:∀ k,k<w.heap.size->S k=0):Rd0 S W v n xs:=fun S' w' ha=>by
  obtain ⟨a,c,h1,h2,h3⟩:=h;refine ⟨a,c,h1,h2,fun h0=>?_⟩;obtain ⟨g,off,e1,e2,e3⟩:=h3 h0;exact ⟨g,off,e1,by have:=hb.size;have:=ha.size;omega,fun j u hu=>(ha.cell (a:=⟨g,off+j,none⟩) (Nat.lt_of_lt_of_le e2 hb.size) (.inl (hS g e2))).trans ((hb.cell (p:=⟨g,off+j,none⟩) e2).trans (e3 j u hu))⟩
theorem st0_in {S:Lab} {w W:World} {v:Value} {ds:List SL} (h:StsR w v ds) (hb:Below w.heap.size w W) (hS:∀ k,k<w.heap.size->S k=0):St0 S W v ds:=by
  obtain ⟨a,c,h1,h2,h3⟩:=h;refine ⟨a,c,h1,h2,fun i hi=>?_⟩;obtain ⟨g,off,vo,vp,vl,vi,e1,e2,e3,e4⟩:=h3 i hi;exact ⟨g,off,vo,vp,vl,vi,e1,Nat.lt_of_lt_of_le e2 hb.size,.inl (hS g e2),⟨rd0_in e3.o hb hS,rd0_in e3.p hb hS,rd0_in e3.l hb hS,rd0_in e3.i hb hS⟩,fun j hj=>(hb.cell (p:=⟨g,off+i*10+j,none⟩) e2).trans (e4 j hj)⟩
def Sv.cells (s:Sv):List Value:=(slC s.d s.o s.p s.l s.i).toList
def svC (L:List Sv):List Value:=L.flatMap Sv.cells
theorem svC_one (L:List Sv) (s:Sv):svC (L++[s])=svC L++s.cells:=by simp [svC]
theorem svC_len (L:List Sv):(svC L).length=L.length*10:=by
  induction L with
  | nil=>rfl
  | cons s L ih=>unfold svC at *;rw [List.flatMap_cons,List.length_append,ih,List.length_cons,Nat.succ_mul];show 10+_=_;omega
theorem svC_get (L:List Sv) (i j:Nat) (hi:i<L.length) (hj:j<10):(svC L)[i*10+j]?=(slC L[i].d L[i].o L[i].p L[i].l L[i].i)[j]?:=by
  induction L generalizing i with
  | nil=>simp at hi
  | cons s L ih =>
    have hc:svC (s :: L)=s.cells++svC L:=by simp [svC]
    have hs:s.cells.length=10:=rfl;rw [hc]
    cases i with
    | zero =>
      rw [List.getElem?_append_left (by omega),Nat.zero_mul,Nat.zero_add];show (slC s.d s.o s.p s.l s.i).toList[j]?=_;rw [Array.getElem?_toList];rfl
    | succ i =>
      rw [List.getElem?_append_right (by omega),hs,show (i+1)*10+j-10=i*10+j by omega];exact ih i (by simpa using hi)
theorem sv_one (d:SL) (bO bP bL bI:Nat):∀ u∈([.int .i64 d.k,.string (txtOf d.n),.slice (some ⟨bO,0,none⟩) d.ops.length (d.ops.length+4),.slice (some ⟨bP,0,none⟩) d.pcs.length (d.pcs.length+4),.string (txtOf d.deg),.slice (some ⟨bL,0,none⟩) d.lits.length (d.lits.length+4),.slice (some ⟨bI,0,none⟩) d.ids.length (d.ids.length+4),.int .i64 d.ends,.string (txtOf d.low),.string (txtOf d.high)]:List Value),u.oneCell'=true:=by
  intro u hu;simp only [List.mem_cons,List.not_mem_nil,or_false] at hu
  rcases hu with rfl | rfl | rfl | rfl | rfl | rfl | rfl | rfl | rfl | rfl <;> rfl
structure LS1 (base R:Nat) (S:Lab) (N:Nat) (w:World) (ds:List SL) (k:Nat) (fv:Value) (S1:Lab) (L:List Sv) (wr:World):Prop where
  g:RoomG base R S1 (N+4*k) wr
  a:Agree S S1 w wr
  own:wr.ownsRow w.heap.size 51 10 fv L.length (svC L)
  lab:∀ g,fv.ownBlock=some g->S1 g=160
  rows:L.map Sv.d=ds.take k
  ok:∀ s∈L,SlB S1 wr s
  high:∀ q,q<w.heap.size->150<=S q->wr.heap[q]?=w.heap[q]?
theorem LS1.len {base R:Nat} {S:Lab} {N:Nat} {w:World} {ds:List SL} {k:Nat} {fv:Value} {S1:Lab} {L:List Sv} {wr:World} (h:LS1 base R S N w ds k fv S1 L wr) (hk:k<=ds.length):L.length=k:=by
  have:=congrArg List.length h.rows;simp at this;omega
theorem LS1.next {base R:Nat} {S:Lab} {N:Nat} {w:World} {ds:List SL} {k:Nat} {fv fv':Value} {S1 S2:Lab} {L:List Sv} {wr w1 W1 w2:World} {s:Sv} (h:LS1 base R S N w ds k fv S1 L wr) (hk:k<ds.length) (hd:s.d=ds[k])
    (hG:RoomG base R S2 (N+4*k+4) w1) (hA:Agree S1 S2 wr w1) (hs:SlB S2 w1 s) (hh:∀ q,q<wr.heap.size->150<=S1 q->w1.heap[q]?=wr.heap[q]?) (hbase:base<=w.heap.size)
    (hW:Below w1.heap.size w1 W1) (ho:w2.ownsRow w.heap.size 51 10 fv' (L.length+1) (svC L++s.cells)) (hg:W1.grownBy w2 fv.ownBlock) (hn:fv'.ownBlock=fv.ownBlock∨∃ g,fv'.ownBlock=some g/\w1.heap.size<=g) :
    ∃ S3,LS1 base R S N w ds (k+1) fv' S3 (L++[s]) w2:=by
  have hl1:∀ g,fv.ownBlock=some g->S2 g=160/\w.heap.size<=g/\g<w1.heap.size:=fun g hg'=>by
    have h1:=h.own.lt g hg';exact ⟨by rw [hA.lab g h1.2];exact h.lab g hg',h1.1,Nat.lt_of_lt_of_le h1.2 hA.size⟩
  obtain ⟨S3,h3,a3,l3⟩:=roomg_step hG hl1 hbase hW hg hn (fun g hg'=>(ho.lt g hg').2);have gw:=grownBy_of_below hW hg;refine ⟨S3,h3.more (by omega),(h.a.trans hA).trans a3,by rw [svC_one,List.length_append];exact ho,l3,?_,fun t ht=>?_,fun q hq hS=>?_⟩
  · rw [List.map_append,h.rows,List.take_succ_eq_append_getElem hk,<-hd];rfl
  · rcases List.mem_append.1 ht with ht | ht
    · exact ((h.ok t ht).agree hA).agree a3
    · rw [List.mem_singleton.1 ht];exact hs.agree a3
  · have q1:q<wr.heap.size:=Nat.lt_of_lt_of_le hq h.a.size
    refine (gw.block q (Nat.lt_of_lt_of_le q1 hA.size) (fun e=>?_)).trans ((hh q q1 (by rw [h.a.lab q hq];exact hS)).trans (h.high q hq hS));have:=(h.own.lt q e.symm).1;omega
structure LS2 (base R:Nat) (S:Lab) (N:Nat) (w:World) (ds:List SL) (k:Nat) (fv:Value) (S1:Lab) (L:List Sv) (wr:World):Prop where
  g:RoomG base R S1 N wr
  a:Agree S S1 w wr
  own:wr.ownsRow w.heap.size 51 10 fv (ds.length+k) (svC L++marks 11 k)
  lab:∀ g,fv.ownBlock=some g->S1 g=160
  ok:∀ s∈L,SlB S1 wr s
  high:∀ q,q<w.heap.size->150<=S q->wr.heap[q]?=w.heap[q]?
theorem LS2.next {base R:Nat} {S:Lab} {N:Nat} {w:World} {ds:List SL} {k:Nat} {fv fv':Value} {S1:Lab} {L:List Sv} {wr W1 w2:World} (h:LS2 base R S N w ds k fv S1 L wr) (hbase:base<=w.heap.size)
    (hW:Below wr.heap.size wr W1) (ho:w2.ownsRow w.heap.size 51 10 fv' (ds.length+k+1) (svC L++marks 11 k++mark 11 k)) (hg:W1.grownBy w2 fv.ownBlock) (hn:fv'.ownBlock=fv.ownBlock∨∃ g,fv'.ownBlock=some g/\wr.heap.size<=g) :
    ∃ S3,LS2 base R S N w ds (k+1) fv' S3 L w2:=by
  have hl1:∀ g,fv.ownBlock=some g->S1 g=160/\w.heap.size<=g/\g<wr.heap.size:=fun g hg'=>⟨h.lab g hg',(h.own.lt g hg').1,(h.own.lt g hg').2⟩
  obtain ⟨S3,h3,a3,l3⟩:=roomg_step h.g hl1 hbase hW hg hn (fun g hg'=>(ho.lt g hg').2);have gw:=grownBy_of_below hW hg;refine ⟨S3,h3,h.a.trans a3,by rw [marks_next,<-List.append_assoc];exact ho,l3,fun t ht=>(h.ok t ht).agree a3,fun q hq hS=>?_⟩;have q1:q<wr.heap.size:=Nat.lt_of_lt_of_le hq h.a.size;refine (gw.block q q1 (fun e=>?_)).trans (h.high q hq hS);have:=(h.own.lt q e.symm).1;omega
def St1 (S:Lab) (w:World) (b:Nat) (ds:List SL):Prop:=ds.length<=9223372036854775807/\Lb S w 11 b ds.length/\∃ L:List Sv,L.map Sv.d=ds/\(∀ s∈L,SlB S w s)/\∀ i j,i<L.length->j<10->w.cell? ⟨b,i*10+j,none⟩=(svC L)[i*10+j]?
theorem St1.st0 {S:Lab} {w:World} {b:Nat} {ds:List SL} (h:St1 S w b ds) (c:Nat):St0 S w (.slice (some ⟨b,0,none⟩) ds.length c) ds:=by
  obtain ⟨h1,h2,L,rfl,h4,h5⟩:=h;refine ⟨_,_,rfl,h1,fun i hi=>?_⟩;have hL:i<L.length:=by simpa using hi
  refine ⟨b,0,L[i].o,L[i].p,L[i].l,L[i].i,rfl,h2.2.1,h2.fre,?_,fun j hj=>?_⟩
  · rw [List.getElem_map];exact (h4 _ (List.getElem_mem hL)).1
  · rw [Nat.zero_add,List.getElem_map,h5 i j hL hj,svC_get L i j hL hj]
structure LaidT (base R:Nat) (S:Lab) (N:Nat) (w:World) (ds:List SL) (room:Nat) (e:Ending) (w':World):Prop where
  out:∃ (b:Nat) (S':Lab),e=.returned (.slice (some ⟨b,0,none⟩) ds.length (ds.length+room))/\RoomG base R S' (N+4*ds.length+1) w'/\Agree S S' w w'/\St1 S' w' b ds
theorem rst_und:Tryz.prog.underlying 61=some (.slice 51):=by kernel_rfl
theorem rst_info:(Tryz.prog.info? 51).map (fun i=>(i.zero,i.size,i.bytes))=some (some (.agg #[.int .i64 0,.string ⟨#[]⟩,.slice none 0 0,.slice none 0 0,.string ⟨#[]⟩,.slice none 0 0,.slice none 0 0,.int .i64 0,.string ⟨#[]⟩,.string ⟨#[]⟩]),10,176):=by kernel_rfl
theorem rst_undo:Tryz.prog.underlying 40=some (.slice 61):=by kernel_rfl
theorem rst_infoo:(Tryz.prog.info? 61).map (fun i=>(i.zero,i.size,i.bytes))=some (some (.slice none 0 0),1,24):=by kernel_rfl
end Go.Proofs.YtpcijhecaedkpaaGreatDoor

namespace Go.Proofs.YtpcijhecaedkpaaGreatDoor
open Go.RowKit
set_option maxRecDepth 10000
set_option maxHeartbeats 8000000
theorem laySteps_any (base R:Nat) (S:Lab) (N:Nat) (v:Value) (ds:List SL) (room:Nat) (w:World) (hG:RoomG base R S N w) (hv:St0 S w v ds) (hf:∀ d∈ds,Few1 d) (hl:ds.length<=200000) (hr0:0<room) (hr:room<=40) (hN:N<=10000) :
    Calls Tryz.prog 58 #[.pointer (some ⟨R,0,none⟩),v,.int .i64 (room:Int)] w (LaidT base R S N w ds room):=by
  have HV:Hid (St0 S w v ds):=hv;obtain ⟨a,cap,rfl,_⟩:=hv;have HB:Hid (base<=w.heap.size):=hG.bas;have HF:Hid (∀ d∈ds,Few1 d):=hf;have hb0:Below w.heap.size w (w.alloc (.cells #[] 51)):=(Below.refl _ _).alloc (Nat.le_refl _) _;obtain ⟨W0,hW0⟩:∃ W,w.alloc (.cells #[] 51)=W:=⟨_,rfl⟩;have H1:Hid (LS1 base R S N w ds 0 (.slice (some ⟨w.heap.size,0,none⟩) 0 0) (lab160 S w.heap.size) [] W0):=by
    rw [<-hW0];exact ⟨hG.lab160 hb0 (by simp),agree_lab160 hb0,World.ownsRow_made w #[] 0 (Nat.le_refl _) (by unfold maxLen;omega) rfl,fun g hg=>by simp [Value.ownBlock] at hg;subst hg;simp [lab160],by simp,fun d hd=>by simp at hd,fun q hq _=>hb0.block q hq⟩
  clear hG hb0 hf;go_enter Tryz.func58,Tryz.ntmps58;go_wp2_with fail
  go_loopw [7,8] (fun fv iv wr=>∃ (k:Nat) (S1:Lab) (L:List Sv),iv=.int .i64 (k:Int)/\k<=ds.length/\Hid (LS1 base R S N w ds k fv S1 L wr)) (fun _ iv _=>ds.length-(intOf iv).toNat)
  case atStart=>exact ⟨0,_,[],rfl,Nat.zero_le _,H1⟩
  case round=>
    obtain ⟨k,S1,L,rfl,hk,hH⟩:=hrel;clear H1
    by_cases hlt:k<ds.length
    · have hkI:(k:Int)<(ds.length:Int):=by omega
      have hDl:=hH.out.len hk;obtain ⟨a',c',ha',_,hcs⟩:=HV.out.agree hH.out.a;injection ha' with ha1 _ ha3;subst ha1 ha3;obtain ⟨g0,o0,vo,vp,vl,vi,rfl,hg0,hS0,hs0,hcl⟩:=hcs k hlt;have HL:Hid (Calls Tryz.prog 120 #[.pointer (some ⟨R,0,none⟩),.agg (slC ds[k] vo vp vl vi)] _ (LaidS base R S1 (N+4*k) _ ds[k])):=step_room base R S1 (N+4*k) ds[k] vo vp vl vi _ hH.out.g hs0 (HF.out _ (List.getElem_mem hlt)) (by omega);obtain ⟨oa,oc,rfl,_⟩:=id hs0.1.now;obtain ⟨pa,pc,rfl,_⟩:=id hs0.2.1.now;obtain ⟨la,lc,rfl,_⟩:=id hs0.2.2.1.now;obtain ⟨ia,ic,rfl,_⟩:=id hs0.2.2.2.now;obtain ⟨fa,fc,hfv⟩:=own_formS hH.out.own;subst hfv;generalize hcc:ds[k]=d at HL hcl
      have HCC:Hid (ds[k]=d):=hcc;have e0:=hcl 0 (by decide);have e1:=hcl 1 (by decide);have e2:=hcl 2 (by decide);have e3:=hcl 3 (by decide);have e4:=hcl 4 (by decide);have e5:=hcl 5 (by decide);have e6:=hcl 6 (by decide);have e7:=hcl 7 (by decide);have e8:=hcl 8 (by decide);have e9:=hcl 9 (by decide);simp only [slC,List.getElem?_toArray,List.getElem?_cons_zero,List.getElem?_cons_succ,Nat.add_zero] at e0 e1 e2 e3 e4 e5 e6 e7 e8 e9;unfold slC at HL;have hLl:L.length<=200000:=by omega
      clear hcs hcl hDl hcc hs0;go_wp2_with fail
      refine calls_at HL.out (by with_reducible rfl) (by with_reducible rfl) ?_;rintro e w1 ⟨⟨bO,bP,bL,bI,S2,he,hG2,hA2,hD2,hh2⟩⟩;subst he;unfold slC;have HO1:Hid (w1.ownsRow w.heap.size 51 10 (.slice fa L.length fc) L.length (svC L)):=ownsRow_same hH.out.own (fun g hg=>hh2 g (hH.out.own.lt g hg).2 (by rw [hH.out.lab g hg];decide))
      have HN:Hid (∀ fv' W1 w2,Below w1.heap.size w1 W1->w2.ownsRow w.heap.size 51 10 fv' (L.length+1) (svC L++[.int .i64 d.k,.string (txtOf d.n),.slice (some ⟨bO,0,none⟩) d.ops.length (d.ops.length+4),.slice (some ⟨bP,0,none⟩) d.pcs.length (d.pcs.length+4),.string (txtOf d.deg),.slice (some ⟨bL,0,none⟩) d.lits.length (d.lits.length+4),.slice (some ⟨bI,0,none⟩) d.ids.length (d.ids.length+4),.int .i64 d.ends,.string (txtOf d.low),.string (txtOf d.high)])->W1.grownBy w2 (Value.ownBlock (.slice fa L.length fc))->(fv'.ownBlock=Value.ownBlock (.slice fa L.length fc)∨∃ g,fv'.ownBlock=some g/\w1.heap.size<=g)->∃ S3,LS1 base R S N w ds (k+1) fv' S3 (L++[⟨d,.slice (some ⟨bO,0,none⟩) d.ops.length (d.ops.length+4),.slice (some ⟨bP,0,none⟩) d.pcs.length (d.pcs.length+4),.slice (some ⟨bL,0,none⟩) d.lits.length (d.lits.length+4),.slice (some ⟨bI,0,none⟩) d.ids.length (d.ids.length+4)⟩]) w2):=fun fv' W1 w2 q1 q2 q3 q4=>
        LS1.next (s:=⟨d,.slice (some ⟨bO,0,none⟩) d.ops.length (d.ops.length+4),.slice (some ⟨bP,0,none⟩) d.pcs.length (d.pcs.length+4),.slice (some ⟨bL,0,none⟩) d.lits.length (d.lits.length+4),.slice (some ⟨bI,0,none⟩) d.ids.length (d.ids.length+4)⟩) hH.out hlt HCC.out.symm hG2 hA2 hD2 hh2 HB.out q1 q2 q3 q4
      have HBS:Hid (w.heap.size<=w1.heap.size):=Nat.le_trans hH.out.a.size hA2.size;clear hG2 hA2 hD2 hh2 e0 e1 e2 e3 e4 e5 e6 e7 e8 e9
      go_wp2_with (at_builtin;refine append_els w1 [.int .i64 d.k,.string (txtOf d.n),.slice (some ⟨bO,0,none⟩) d.ops.length (d.ops.length+4),.slice (some ⟨bP,0,none⟩) d.pcs.length (d.pcs.length+4),.string (txtOf d.deg),.slice (some ⟨bL,0,none⟩) d.lits.length (d.lits.length+4),.slice (some ⟨bI,0,none⟩) d.ids.length (d.ids.length+4),.int .i64 d.ends,.string (txtOf d.low),.string (txtOf d.high)] 10 rfl (by decide) rfl (.tmp 17) (.tmp 24) 61 51 (.agg #[.int .i64 0,.string ⟨#[]⟩,.slice none 0 0,.slice none 0 0,.string ⟨#[]⟩,.slice none 0 0,.slice none 0 0,.int .i64 0,.string ⟨#[]⟩,.string ⟨#[]⟩]) 176 rfl rst_und rst_info rfl w.heap.size _ _ _ (by rfl) HO1.out (sv_one d bO bP bL bI) _ rfl (by rfl) (by unfold maxLen;omega) (by omega) HBS.out ?_;intro v2 w2 ho2 hg2 hn2)
      obtain ⟨S3,hX⟩:=HN.out v2 _ w2 ((Below.refl _ _).alloc (Nat.le_refl _) _) ho2 hg2 (hn2.imp id (fun h=>⟨_,h,Nat.le_succ _⟩));have HX:Hid (LS1 base R S N w ds (k+1) v2 S3 (L++[⟨d,.slice (some ⟨bO,0,none⟩) d.ops.length (d.ops.length+4),.slice (some ⟨bP,0,none⟩) d.pcs.length (d.pcs.length+4),.slice (some ⟨bL,0,none⟩) d.lits.length (d.lits.length+4),.slice (some ⟨bI,0,none⟩) d.ids.length (d.ids.length+4)⟩]) w2):=hX;clear ho2 hg2 hn2 HN hX;go_wp2_with fail
      go_roundw
      case rel=>exact ⟨k+1,S3,_,by go_num,by omega,HX⟩
      case measure=>simp [intOf];omega
    · have hkI:¬ (k:Int)<(ds.length:Int):=by omega
      have hkl:k=ds.length:=by omega
      have hDl:=hH.out.len hk;have HP:Hid (L.map Sv.d=ds):=by
        show _=_;rw [hH.out.rows,hkl,List.take_length]
      have H2:Hid (LS2 base R S (N+4*ds.length) w ds 0 _ S1 L _):=⟨by have:=hH.out.g;rw [hkl] at this;exact this,hH.out.a,by have:=hH.out.own;rw [hDl,hkl] at this;simpa [marks_zero] using this,hH.out.lab,hH.out.ok,hH.out.high⟩;clear hH hkl hDl;go_wp2_with fail
      go_loopw [7,9] (fun fv iv wr=>∃ (k:Nat) (S2:Lab),iv=.int .i64 (k:Int)/\k<=room/\Hid (LS2 base R S (N+4*ds.length) w ds k fv S2 L wr)) (fun _ iv _=>room-(intOf iv).toNat)
      case atStart=>exact ⟨0,S1,rfl,Nat.zero_le _,H2⟩
      case round=>
        obtain ⟨k2,S2,rfl,hk2,hH⟩:=hrel;clear H2;rename World=>wr
        by_cases hlt2:k2<room
        · have hkI2:(k2:Int)<(room:Int):=by omega
          have HBS:Hid (w.heap.size<=wr.heap.size):=hH.out.a.size
          go_wp2_with (first
            | (go_at_call 121;refine (lot_any k2 _).mono ?_;rintro e w' ⟨rfl,hww⟩;rw [hww])
            | (at_builtin;refine append_els wr [.int .i64 0,.string ⟨#[]⟩,.slice none 0 0,.slice none 0 0,.string ⟨#[]⟩,.slice none 0 0,.slice none 0 0,.int .i64 (lotI k2),.string ⟨#[]⟩,.string ⟨#[]⟩] 10 rfl (by decide) rfl (.tmp 31) (.tmp 35) 61 51 (.agg #[.int .i64 0,.string ⟨#[]⟩,.slice none 0 0,.slice none 0 0,.string ⟨#[]⟩,.slice none 0 0,.slice none 0 0,.int .i64 0,.string ⟨#[]⟩,.string ⟨#[]⟩]) 176 rfl rst_und rst_info rfl w.heap.size _ _ _ (by rfl) hH.out.own (mark_one (f:=11) k2) _ rfl (by rfl) (by unfold maxLen;omega) (by omega) HBS.out ?_;intro v2 w2 ho2 hg2 hn2))
          obtain ⟨S3,hX⟩:=hH.out.next HB.out ((Below.refl _ _).alloc (Nat.le_refl _) _) ho2 hg2 (hn2.imp id (fun h=>⟨_,h,Nat.le_succ _⟩));have HX:Hid (LS2 base R S (N+4*ds.length) w ds (k2+1) v2 S3 L w2):=hX;clear ho2 hg2 hn2 hX;go_wp2_with fail
          go_roundw
          case rel=>exact ⟨k2+1,S3,by go_num,by omega,HX⟩
          case measure=>simp [intOf];omega
        · have hkI2:¬ (k2:Int)<(room:Int):=by omega
          obtain rfl:k2=room:=by omega
          obtain ⟨b,cp,cur,hfv,hbb,hbg,hbc,hbm,hbs,hbt⟩:∃ b cp cur,_=Value.slice (some ⟨b,0,none⟩) (ds.length+k2) cp/\w.heap.size<=b/\wr.heap[b]?=some (.cells cur 51 (0,0))/\ds.length+k2<=cp/\cp<=maxLen/\cur.size=cp*10/\cur.toList.take ((ds.length+k2)*10)=svC L++marks 11 k2:=by
            rcases hH.out.own.2 with ⟨_,hn⟩ | h
            · omega
            · exact h
          subst hfv;have hSb:S2 b=160:=hH.out.lab b rfl;have hbw:b<wr.heap.size:=(Array.getElem?_eq_some_iff.1 hbg).1;obtain ⟨F,hF⟩:=hH.out.g.free hSb;obtain ⟨Sx,hSx⟩:∃ Sx:Lab,(fun k=>if k=b then 0 else S2 k)=Sx:=⟨_,rfl⟩;have hSxb:Sx b=0:=by rw [<-hSx];simp
          have HOk:Hid (∀ s∈L,SlB Sx wr s):=fun s hs=>by rw [<-hSx];exact (hH.out.ok s hs).free hSb
          have HAG:Hid (Agree S Sx w wr):=by
            have h:=hH.out.a;rw [<-hSx];exact ⟨h.os,h.tape,h.output,h.size,fun q hq=>by rw [if_neg (by omega)];exact h.lab q hq,h.block⟩
          rw [hSx] at hF;have HFF:Hid (RoomF base R Sx (N+4*ds.length) F wr):=hF;have HRW:Hid (RoomAt ety base R Sx F wr):=hF.room;have HBG:Hid (∃ cur t,wr.heap[b]?=some (.cells cur t (0,0))):=⟨_,_,hbg⟩;have HBb:Hid (w.heap.size<=b):=hbb;have HLn:Hid ((F 22).length<=N+4*ds.length/\(F 23).length=(F 22).length):=hF.len 11 (by decide);obtain ⟨v0,hv0,ho0,hl0⟩:=hF.room.field 22 (by decide);have HCB:Hid (∀ j u,(svC L++marks 11 k2)[j]?=some u->wr.cell? ⟨b,j,none⟩=some u):=fun j u hj=>by
            have:=hH.out.own.cells (g:=b) rfl j u hj
            rwa [addr_noneR,Nat.zero_add] at this
          have HO0:Hid (wr.ownsRow base (ety 22) 1 v0 (F 22).length (F 22)):=ho0;have Hcp:Hid (cp<=maxLen/\ds.length+k2<=cp):=⟨hbm,hbc⟩;have hcpI:(ds.length:Int)+(k2:Int)<=(cp:Int):=by omega
          have HFb:Hid ((F 22).length<=1000000/\(F 23).length<=1000000):=by have:=HLn.out;exact ⟨by omega,by omega⟩
          unfold maxLen at hbm;clear ho0 hl0 hF hbg hbs hbt hH hSb hSx
          go_wp2_with (first
            | (at_builtin;refine append_oneR wr (.slice (some ⟨b,0,none⟩) (ds.length+k2) cp) rfl (.tmp 41) (.tmp 43) 40 61 (.slice none 0 0) 24 rfl rst_undo rst_infoo rfl base v0 _ _ (by rfl) HO0.out rfl _ rfl (by rfl) (by have:=HFb.out.1;unfold maxLen;omega) (by have:=HFb.out.1;omega) HRW.out.bas ?_;intro v1 w1 ho1 hg1 hn1;
               obtain ⟨a1,c1,hf1⟩:=own_formS ho1;
               subst hf1;
               have hW1:Below wr.heap.size wr (wr.alloc (.cells #[.slice (some ⟨b,0,none⟩) (ds.length+k2) cp] 61)):=(Below.refl _ _).alloc (Nat.le_refl _) _;
               obtain ⟨hcR,hfR⟩:=HRW.out.after (f:=22) (by decide) hW1 hv0 hg1;
               obtain ⟨S3,hR1,hA1,hz1⟩:=HRW.out.push (f:=22) (by decide) hW1 hv0 ho1 hg1 (by simpa using hn1);
               have q0:=(hcR 22).trans hv0;
               have q1:=hfR 22;
               obtain ⟨w2,hw2⟩:∃ w2,w1.setCell ⟨R,22,none⟩ (.slice a1 ((F 22).length+1) c1)=w2:=⟨_,rfl⟩;
               rw [hw2] at hR1 hA1;
               have HR1:Hid (RoomAt ety base R S3 (fun j=>if j=22 then F 22++[.slice (some ⟨b,0,none⟩) (ds.length+k2) cp] else F j) w2):=hR1;
               have HA1:Hid (Agree Sx S3 wr w2):=hA1;
               clear ho1 hg1 hn1 hW1 hcR hfR hA1 hz1;
               obtain ⟨vA,hvA,hoA,hlA⟩:=hR1.field 23 (by decide);
               have HOA:Hid (w2.ownsRow base 3 1 vA (F 23).length (F 23)):=hoA;
               clear hR1 hoA hlA)
            | (at_builtin;refine append_oneR w2 (.int .i64 (ds.length:Int)) rfl (.tmp 51) (.tmp 54) 29 3 (.int .i64 0) 8 rfl rli_undi rli_infoi rfl base vA _ _ (by rfl) HOA.out rfl _ rfl (by rfl) (by have:=HFb.out.2;unfold maxLen;omega) (by have:=HFb.out.2;omega) HR1.out.bas ?_;intro v3 w3 ho3 hg3 hn3;
               obtain ⟨a3,c3,hf3⟩:=own_formS ho3;
               subst hf3;
               have hW3:Below w2.heap.size w2 (w2.alloc (.cells #[.int .i64 (ds.length:Int)] 3)):=(Below.refl _ _).alloc (Nat.le_refl _) _;
               obtain ⟨hcR3,hfR3⟩:=HR1.out.after (f:=23) (by decide) hW3 hvA hg3;
               obtain ⟨S4,hR3,hA3,hz3⟩:=HR1.out.push (f:=23) (by decide) hW3 hvA ho3 hg3 (by simpa using hn3);
               have q3:=(hcR3 23).trans hvA;
               have q4:=hfR3 23;
               obtain ⟨w4,hw4⟩:∃ w4,w3.setCell ⟨R,23,none⟩ (.slice a3 ((F 23).length+1) c3)=w4:=⟨_,rfl⟩;
               rw [hw4] at hR3 hA3;
               have HR3:Hid (RoomAt ety base R S4 (fun j=>if j=23 then F 23++[.int .i64 (ds.length:Int)] else if j=22 then F 22++[.slice (some ⟨b,0,none⟩) (ds.length+k2) cp] else F j) w4):=hR3;
               have HA3:Hid (Agree S3 S4 w2 w4):=hA3;
               clear ho3 hg3 hn3 hW3 hcR3 hfR3 hR3 hA3 hz3))
          go_ret;have hs1:S3 b=0:=(HA1.out.lab b hbw).trans hSxb;have hbw2:b<w2.heap.size:=Nat.lt_of_lt_of_le hbw HA1.out.size;have hall:∀ j u,(svC L++marks 11 k2)[j]?=some u->w4.cell? ⟨b,j,none⟩=some u:=fun j u hj=>
            (HA3.out.cell (a:=⟨b,j,none⟩) hbw2 (.inl hs1)).trans ((HA1.out.cell (a:=⟨b,j,none⟩) hbw (.inl hSxb)).trans (HCB.out j u hj))
          have hA14:Agree Sx S4 wr w4:=HA1.out.trans HA3.out;have hAg:Agree S S4 w w4:=HAG.out.trans hA14;have hb4:b<w4.heap.size:=Nat.lt_of_lt_of_le hbw2 HA3.out.size;have hs3:S4 b=0:=(HA3.out.lab b hbw2).trans hs1;have hLl:L.length=ds.length:=by
            have:=congrArg List.length HP.out;simpa using this
          have hg4:∃ cur t,w4.heap[b]?=some (.cells cur t (0,0)):=by
            obtain ⟨cur,t,h⟩:=HBG.out;exact ⟨cur,t,(HA3.out.block b hbw2 (.inl hs1)).trans ((HA1.out.block b hbw (.inl hSxb)).trans h)⟩
          refine ⟨⟨b,mk1 S4 b (lb 11 ds.length),rfl,HFF.out.fin (f:=11) (by decide) (by decide) hA14 HR3.out hs3 hb4 (Nat.le_trans HB.out HBb.out) ⟨b,ds.length,k2,cp,rfl,rfl,by omega,hr,Hcp.out.2,mk1_at _ _ _,hb4,fun j hj q u hu=>hall _ _ ?_⟩,hAg.mk1 HBb.out _,by omega,⟨mk1_at _ _ _,hb4,hg4⟩,L,HP.out,fun s hs=>((HOk.out s hs).agree hA14).mkl hs3 (lb_fre _ _),fun i j hi hj=>?_⟩⟩
          · have hm:=marks_get (f:=11) (by decide) hj hu
            have hle:(svC L).length<=(ds.length+j)*esz 11+q:=by
              rw [svC_len,hLl,Nat.add_mul];show ds.length*10<=ds.length*10+j*10+q;omega
            rw [List.getElem?_append_right hle];have he:(ds.length+j)*esz 11+q-(svC L).length=j*esz 11+q:=by
              rw [svC_len,hLl,Nat.add_mul];show ds.length*10+j*10+q-ds.length*10=j*10+q;omega
            rw [he];exact hm
          · have hlt3:i*10+j<(svC L).length:=by rw [svC_len];omega
            rw [List.getElem?_eq_getElem hlt3];exact hall _ _ (by rw [List.getElem?_append_left hlt3,List.getElem?_eq_getElem hlt3])
theorem roomSteps_any (base R:Nat) (S:Lab) (N:Nat) (v:Value) (ds:List SL) (w:World) (hG:RoomG base R S N w) (hv:St0 S w v ds) (hf:∀ d∈ds,Few1 d) (hl:ds.length<=200000) (hN:N<=10000):Calls Tryz.prog 17 #[.pointer (some ⟨R,0,none⟩),v] w (LaidT base R S N w ds 40):=by
  have HC:Hid (Calls Tryz.prog 58 #[.pointer (some ⟨R,0,none⟩),v,.int .i64 40] w (LaidT base R S N w ds 40)):=laySteps_any base R S N v ds 40 w hG hv hf hl (by decide) (by decide) hN;obtain ⟨a,c,rfl,_⟩:=hv;go_enter Tryz.func17,Tryz.ntmps17;go_wp2_with (go_at_call 58;refine calls_at HC.out (by with_reducible rfl) (by with_reducible rfl) ?_;rintro e w2 ⟨⟨b,S2,he,h1,h2,h3⟩⟩;subst he);go_ret;exact ⟨⟨b,S2,rfl,h1,h2,h3⟩⟩
end Go.Proofs.YtpcijhecaedkpaaGreatDoor
