/-
  Put together: TrSay0, TrSay, TrLay0, TrLay, TrBad, TrMem.
-/
import Derived.Test.YthohnmplbjhjaaaGreatDoorJ32
import Derived.Test.YthohnmplbjhjaaaGreatDoorJ13
import Derived.Test.YthohnmplbjhjaaaGreatDoorQs
import Derived.Test.YthohnmplbjhjaaaGreatDoorJ26
namespace Go.Proofs.YthohnmplbjhjaaaGreatDoor
open Go Go.RowKit Go.Shelf Go.Lib
def xC (k:Nat):List UInt8:=
 if k=1 then [108,105,110] else if k=2 then [110,101] else if k=3 then [97,108,108,100,105,102,102] else if k=4 then [101,108,101,109,101,110,116] else if k=5 then [109,97,120] else if k=6 then [109,105,110]
 else if k=7 then [114,101,105,102] else if k=8 then [116,97,98,108,101] else if k=9 then [99,111,117,110,116] else if k=10 then [118,97,114] else if k=11 then [109,105,110,105,109,105,122,101] else []
def fnK (k:Nat):Nat:=if k=1 then 79 else if k=2 then 85 else if k=3 then 87 else if k=4 then 89 else if k=5 then 70 else if k=6 then 70 else if k=7 then 92 else if k=8 then 94 else if k=9 then 97 else if k=10 then 75 else 99
theorem y4S (x:List UInt8) (k:Nat) (h1:1<=k) (h2:k<=11) (hx:x=xC k):zM x=k:=by
 subst hx
 rcases (by omega:k=1∨k=2∨k=3∨k=4∨k=5∨k=6∨k=7∨k=8∨k=9∨k=10∨k=11) with rfl | rfl | rfl | rfl | rfl | rfl | rfl | rfl | rfl | rfl | rfl <;> rfl
theorem y4R (x:List UInt8) (h:∀ k,1<=k->k<12->x≠xC k):zM x=0:=by
 unfold zM
 rw [if_neg (show ¬ x=[108,105,110] from h 1 (by omega) (by omega))]
 rw [if_neg (show ¬ x=[110,101] from h 2 (by omega) (by omega))]
 rw [if_neg (show ¬ x=[97,108,108,100,105,102,102] from h 3 (by omega) (by omega))]
 rw [if_neg (show ¬ x=[101,108,101,109,101,110,116] from h 4 (by omega) (by omega))]
 rw [if_neg (show ¬ x=[109,97,120] from h 5 (by omega) (by omega))]
 rw [if_neg (show ¬ x=[109,105,110] from h 6 (by omega) (by omega))]
 rw [if_neg (show ¬ x=[114,101,105,102] from h 7 (by omega) (by omega))]
 rw [if_neg (show ¬ x=[116,97,98,108,101] from h 8 (by omega) (by omega))]
 rw [if_neg (show ¬ x=[99,111,117,110,116] from h 9 (by omega) (by omega))]
 rw [if_neg (show ¬ x=[118,97,114] from h 10 (by omega) (by omega))]
 rw [if_neg (show ¬ x=[109,105,110,105,109,105,122,101] from h 11 (by omega) (by omega))]
theorem Ki (k:Nat) (h1:1<=k) (h2:k<=11):∃ pr,∀ w,(Instr.index 106 (.agg formCells) (.int .i64 (k:Int))).run Tryz.prog w=.ok (.agg #[.string (yc (xC k)),.func (.func (fnK k)) #[] #[],.func (.func pr) #[] #[]]) w:=by
 rcases (by omega:k=1∨k=2∨k=3∨k=4∨k=5∨k=6∨k=7∨k=8∨k=9∨k=10∨k=11) with rfl | rfl | rfl | rfl | rfl | rfl | rfl | rfl | rfl | rfl | rfl
 ·exact ⟨83,fun w=>by kernel_rfl⟩
 ·exact ⟨86,fun w=>by kernel_rfl⟩
 ·exact ⟨88,fun w=>by kernel_rfl⟩
 ·exact ⟨91,fun w=>by kernel_rfl⟩
 ·exact ⟨73,fun w=>by kernel_rfl⟩
 ·exact ⟨73,fun w=>by kernel_rfl⟩
 ·exact ⟨93,fun w=>by kernel_rfl⟩
 ·exact ⟨95,fun w=>by kernel_rfl⟩
 ·exact ⟨98,fun w=>by kernel_rfl⟩
 ·exact ⟨76,fun w=>by kernel_rfl⟩
 ·exact ⟨100,fun w=>by kernel_rfl⟩
theorem y4V:∀ w,(Instr.index 106 (.agg formCells) (.int .i64 0)).run Tryz.prog w=.ok (.agg #[.string (yc []),.nilFunc,.nilFunc]) w:=fun w=>by kernel_rfl
theorem y4T (k:Nat) (h1:1<=k) (h2:k<=11):∀ args w,(callFunc (fnK k) args).run Tryz.prog w=.ok (.enter (fnK k) args) w:=by
 rcases (by omega:k=1∨k=2∨k=3∨k=4∨k=5∨k=6∨k=7∨k=8∨k=9∨k=10∨k=11) with rfl | rfl | rfl | rfl | rfl | rfl | rfl | rfl | rfl | rfl | rfl
 ·exact enters_of Tryz.func79 (by kernel_rfl) rfl
 ·exact enters_of Tryz.func85 (by kernel_rfl) rfl
 ·exact enters_of Tryz.func87 (by kernel_rfl) rfl
 ·exact enters_of Tryz.func89 (by kernel_rfl) rfl
 ·exact enters_of Tryz.func70 (by kernel_rfl) rfl
 ·exact enters_of Tryz.func70 (by kernel_rfl) rfl
 ·exact enters_of Tryz.func92 (by kernel_rfl) rfl
 ·exact enters_of Tryz.func94 (by kernel_rfl) rfl
 ·exact enters_of Tryz.func97 (by kernel_rfl) rfl
 ·exact enters_of Tryz.func75 (by kernel_rfl) rfl
 ·exact enters_of Tryz.func99 (by kernel_rfl) rfl
theorem y4U (k:Nat) (h1:1<=k) (h2:k<=11) {w0:World} {V:List Md.Vr} {va:Value} {b:Nat} {s:St} (S B:Nat) (w:World) (h:Ln w0 V va b s w) (hS:w.heap[S]?=some (.cells (sayC ⟨#[]⟩ 0 0 (k:Int) 0 (.slice none 0 0) 0 0 0 0 (.slice none 0 0) (.slice none 0 0) (.slice none 0 0)) 74 (0,0))) (hSw:w0.heap.size<=S) (hB:B<=w.heap.size):Calls Tryz.prog (fnK k) #[.pointer (some ⟨b,0,none⟩),.pointer (some ⟨S,0,none⟩)] w (SO w0 V va b S B (zy V k s) w):=by
 rcases (by omega:k=1∨k=2∨k=3∨k=4∨k=5∨k=6∨k=7∨k=8∨k=9∨k=10∨k=11) with rfl | rfl | rfl | rfl | rfl | rfl | rfl | rfl | rfl | rfl | rfl
 ·exact y4x S B w h hS hSw hB
 ·exact y4y S B w h hS hSw hB
 ·exact y4z S B w h hS hSw hB
 ·exact y4A S B w h hS hSw hB
 ·exact K6 S B 5 w h hS hSw hB
 ·exact K6 S B 6 w h hS hSw hB
 ·exact y4M S B w h hS hSw hB
 ·exact y4F S B w h hS hSw hB
 ·exact y4B S B w h hS hSw hB
 ·exact y4D S B w h hS hSw hB
 ·exact y4C S B w h hS hSw hB
structure SyV (B:Nat) (y:Sy) (vt vx vb vr:Value) (W:World):Prop where
 t:W.ownsRow B 87 2 vt y.c.terms.length (encL encT y.c.terms)
 x:W.ownsRow B 3 1 vx y.c.xs.length (encL encI y.c.xs)
 b:W.ownsRow B 3 1 vb y.c.table.length (encL encI y.c.table)
 r:∃ vs D,W.ownsRow B 58 1 vr y.c.rows.length vs/\RowsW W B D vs y.c.rows
def SR (w0:World) (V:List Md.Vr) (va:Value) (b:Nat) (r:Sy × St) (w:World) (e:Ending) (w':World):Prop:=
 ∃ vt vx vb vr,e=.returned (.agg (sayC r.1.v.name r.1.v.lo r.1.v.hi r.1.c.kind r.1.c.op vt r.1.c.k r.1.c.v r.1.c.x r.1.c.y vx vb vr))/\Ln w0 V va b r.2 w'/\Ofw (fun k=>k=b) w w'/\SyV w.heap.size r.1 vt vx vb vr w'
theorem SyV.off {B:Nat} {y:Sy} {vt vx vb vr:Value} {w w':World} {S:Nat->Prop} (h:SyV B y vt vx vb vr w) (o:Ofw S w w') (hS:∀ k,S k->∀ c t,w.heap[k]?=some (.cells c t (0,0))->t≠87/\t≠3/\t≠58):SyV B y vt vx vb vr w':=by
 have kp:∀ {e size v n xs},w.ownsRow B e size v n xs->(e=87∨e=3∨e=58)->w'.ownsRow B e size v n xs:=fun {e size v n xs} h1 he=>yC h1 (fun g hg eg=>by
  obtain ⟨_,cur,hc⟩:=yn h1 hg
  obtain ⟨a1,a2,a3⟩:=hS g eg cur e hc
  rcases he with he | he | he
  ·exact a1 he
  ·exact a2 he
  ·exact a3 he) o
 obtain ⟨vs,D,hr,hrs⟩:=h.r
 exact ⟨kp h.t (.inl rfl),kp h.x (.inr (.inl rfl)),kp h.b (.inr (.inl rfl)),vs,D,kp hr (.inr (.inr rfl)),hrs.keep o (fun k hk=>.inr (fun c e=>(hS k hk c 3 e).2.1 rfl))⟩
end Go.Proofs.YthohnmplbjhjaaaGreatDoor

namespace Go.Proofs.YthohnmplbjhjaaaGreatDoor
open Go Go.RowKit Go.Shelf Go.Lib
def sayZ (k:Int):Array Value:=sayC ⟨#[]⟩ 0 0 k 0 (.slice none 0 0) 0 0 0 0 (.slice none 0 0) (.slice none 0 0) (.slice none 0 0)
theorem YF (name:ByteArray) (lo hi kind op:Int) (vt:Value) (k v x y:Int) (vx vb vr:Value):(Tryz.prog.info? 74).map (·.size)=some (sayC name lo hi kind op vt k v x y vx vb vr).size:=by
 show _=some 13
 kernel_rfl
theorem K9 (name:ByteArray) (lo hi kind op:Int) (a1:Option Addr) (n1 c1:Nat) (k v x y:Int) (a2:Option Addr) (n2 c2:Nat) (a3:Option Addr) (n3 c3:Nat) (a4:Option Addr) (n4 c4:Nat):(sayC name lo hi kind op (.slice a1 n1 c1) k v x y (.slice a2 n2 c2) (.slice a3 n3 c3) (.slice a4 n4 c4)).all (·.oneCell')=true:=by kernel_rfl
theorem Y5 {w:World} {g:Nat} {cs:Array Value}:Ofw (fun k=>k=g) w (w.setRow g cs):=⟨rfl,rfl,rfl,by simp,fun k _ hne=>setRow_other w g k cs hne⟩
def conZ (k:Int):Array Value:=#[.int .i64 k,.int .i64 0,.slice none 0 0,.int .i64 0,.int .i64 0,.int .i64 0,.int .i64 0,.slice none 0 0,.slice none 0 0,.slice none 0 0]
theorem y4P {W2 wr W5:World} {X:ByteArray} {F pr:Nat} {k:Int} {old:Array Value} (hb:Below W2.heap.size W2 wr) (hW5:((wr.alloc (.cells #[.string X,.func (.func F) #[] #[],.func (.func pr) #[] #[]] 105)).alloc (.cells old 74)).setRow (wr.heap.size+1) (sayZ k)=W5):(Below W2.heap.size W2 W5/\Ofw (fun _=>False) wr W5)/\W5.heap[wr.heap.size]?=some (.cells #[.string X,.func (.func F) #[] #[],.func (.func pr) #[] #[]] 105 (0,0))/\W5.heap[wr.heap.size+1]?=some (.cells (sayZ k) 74 (0,0)):=by
 subst hW5
 have hb1:Below wr.heap.size wr ((wr.alloc (.cells #[.string X,.func (.func F) #[] #[],.func (.func pr) #[] #[]] 105)).alloc (.cells old 74)):=((Below.refl _ _).alloc (Nat.le_refl _) _).alloc (by simp) _
 have hb2:=below_setRow hb1 (g:=wr.heap.size+1) (by omega) (sayZ k)
 exact ⟨⟨hb.trans (hb2.mono hb.size),Ofw.of_below hb2⟩,(setRow_other _ _ _ _ (by omega)).trans (heap_alloc2_old wr _ _),setRow_heap _ _ _ _ _ _ (heap_alloc2_new wr _ _)⟩
theorem y4Q {W1 W2 w wr W5 w7:World} {b:Nat} {X:ByteArray} {F pr:Nat} {k:Int} (h1:W5.heap[wr.heap.size]?=some (.cells #[.string X,.func (.func F) #[] #[],.func (.func pr) #[] #[]] 105 (0,0))) (h2:W5.heap[wr.heap.size+1]?=some (.cells (sayZ k) 74 (0,0))) (o:Ofw (fun k=>k=b) W5 w7) (hq:W5.heap[W1.heap.size]?=some (.cells (sayZ 0) 74)) (hb:b<w.heap.size) (e1:W1.heap.size=w.heap.size+1) (e2:W2.heap.size=w.heap.size+2) (hbl:Below W2.heap.size W2 wr) :
  w7.heap[wr.heap.size]?=some (.cells #[.string X,.func (.func F) #[] #[],.func (.func pr) #[] #[]] 105 (0,0))/\w7.heap[wr.heap.size+1]?=some (.cells (sayZ k) 74 (0,0))/\w.heap.size<=wr.heap.size/\w.heap.size<=w7.heap.size/\w7.heap[W1.heap.size]?=some (.cells (sayZ 0) 74):=by
 have hz:=hbl.size
 have h3:=(Array.getElem?_eq_some_iff.1 h2).1
 have h4:=o.size
 exact ⟨(o.block _ (by omega) (by omega)).trans h1,(o.block _ (by omega) (by omega)).trans h2,by omega,by omega,(o.block _ (by omega) (by omega)).trans hq⟩
set_option maxRecDepth 100000 in
set_option maxHeartbeats 4000000 in
theorem y4J {w0:World} {m:Md.Mo} {va:Option Addr} {vp:Nat} {b:Nat} {s:St} (x:List UInt8) (ca:Option Addr) (cp:Nat) (vg:Value) (w:World) (h:Ln w0 m.vars (.slice va m.vars.length vp) b s w) (hx0:x≠[]):Calls Tryz.prog 49 #[.pointer (some ⟨b,0,none⟩),.string (yc x),.agg #[.slice va m.vars.length vp,.slice ca m.cons.length cp,.bool m.has,vg]] w (SR w0 m.vars (.slice va m.vars.length vp) b (sayT m x s) w):=by
  obtain ⟨W1,hW1⟩:∃ W1,w.alloc (.cells #[.slice va m.vars.length vp,.slice ca m.cons.length cp,.bool m.has,vg] 26)=W1:=⟨_,rfl⟩
  obtain ⟨W2,hW2⟩:∃ W2,W1.alloc (.cells (sayZ 0) 74)=W2:=⟨_,rfl⟩
  have hb1:Below w.heap.size w W1:=hW1▸(Below.refl _ _).alloc (Nat.le_refl _) _
  have hs1:W1.heap.size=w.heap.size+1:=by rw [<-hW1];simp
  have hb2:Below W1.heap.size W1 W2:=hW2▸(Below.refl _ _).alloc (Nat.le_refl _) _
  have hs2:W2.heap.size=w.heap.size+2:=by rw [<-hW2];simp [hs1]
  have hbw:Below w.heap.size w W2:=hb1.trans (hb2.mono hb1.size)
  have hp2:W2.heap[w.heap.size]?=some (.cells #[.slice va m.vars.length vp,.slice ca m.cons.length cp,.bool m.has,vg] 26):=(hb2.block _ (by omega)).trans (hW1▸World.alloc_heap_new w _)
  have hq2:W2.heap[w.heap.size+1]?=some (.cells (sayZ 0) 74):=by rw [<-hs1,<-hW2];exact World.alloc_heap_new W1 _
  have HK:Hid (∀ w',Below W2.heap.size W2 w'->w'.heap[w.heap.size]?=some (.cells #[.slice va m.vars.length vp,.slice ca m.cons.length cp,.bool m.has,vg] 26)/\w'.heap[W1.heap.size]?=some (.cells (sayZ 0) 74)/\Ln w0 m.vars (.slice va m.vars.length vp) b s w'/\Below w.heap.size w w'/\w.heap.size+2<=w'.heap.size):=fun w' hb=>by
    exact ⟨(hb.block _ (by omega)).trans hp2,(hb.block _ (by omega)).trans (hs1▸hq2),h.below (hbw.trans (hb.mono hbw.size)),hbw.trans (hb.mono hbw.size),by have:=hb.size;omega⟩
  have HM:Hid (∀ (k:Nat) w',Calls Tryz.prog 110 #[.int .i64 (k:Int),.agg #[.slice va m.vars.length vp,.slice ca m.cons.length cp,.bool m.has,vg]] w' fun e w''=>e=.returned (.int .i64 (yY k m))/\Below w'.heap.size w' w''):=fun k w'=>y4i k m va vp ca cp vg w'
  have HF51:Hid (∀ w',Ln w0 m.vars (.slice va m.vars.length vp) b s w'->Calls Tryz.prog 109 #[.pointer (some ⟨b,0,none⟩),.int .i64 51] w' (RO w0 m.vars (.slice va m.vars.length vp) b (.tuple #[]) (yh 51 s) w')):=fun w' h'=>zF 51 w' h'
  have HFm:Hid (∀ (e:Int) w',Ln w0 m.vars (.slice va m.vars.length vp) b s w'->Calls Tryz.prog 109 #[.pointer (some ⟨b,0,none⟩),.int .i64 e] w' (RO w0 m.vars (.slice va m.vars.length vp) b (.tuple #[]) (yh e s) w')):=fun e w' h'=>zF e w' h'
  have hlt:=h.lt
  have hbg:=h.big
  have HLt:Hid (b<w.heap.size/\w0.heap.size<=w.heap.size/\W2.heap.size=w.heap.size+2/\W1.heap.size=w.heap.size+1):=⟨by omega,by omega,by omega,by omega⟩
  have HX:Hid (x≠[]):=hx0
  have HRR:Hid (∀ w',SR w0 m.vars (.slice va m.vars.length vp) b (sayT m x s) w=w'->SR w0 m.vars (.slice va m.vars.length vp) b (sayT m x s) w=w'):=fun _ h=>h
  unfold sayZ sayC at hW2
  obtain ⟨X,hX⟩:∃ X,yc x=X:=⟨_,rfl⟩
  have HXX:Hid (yc x=X):=hX
  obtain ⟨R,hR⟩:∃ R,sayT m x s=R:=⟨_,rfl⟩
  have HR:Hid (sayT m x s=R):=hR
  rw [hX,hR]
  clear hX hR HRR h hx0 hb1 hb2 hbw hp2 hq2 hs1 hs2 hlt hbg
  go_enter Tryz.func49,Tryz.ntmps49
  go_wp2_with (first
    | (go_at_call 43;refine cZ (X6 _) ?_;rintro e w3 ⟨rfl,hb3⟩))
  have HB3:Hid (Below W2.heap.size W2 w3):=hb3
  clear hW1 hW2 hb3
  go_loopw [11] (fun v11 wr=>∃ k:Nat,v11=.int .i64 (k:Int)/\k<=12/\Hid (∀ j,1<=j->j<k->x≠xC j)/\Hid (Below W2.heap.size W2 wr)) (fun v _=>(12-RowKit.intOf v).toNat)
  case atStart=>exact ⟨0,rfl,by omega,fun j h1 h2=>by omega,HB3.out⟩
  case round=>
    obtain ⟨k,rfl,hk,HJ,HBl⟩:=hrel
    by_cases k12:k=12
    · subst k12
      have HQ:Hid (sayT m x s=(⟨zv,zc 0⟩,yh 51 s)):=by
        show _=_
        unfold sayT
        rw [y4R x HJ.out,if_pos rfl]
      obtain ⟨_,g2,g3,g4,g5⟩:=HK.out _ HBl.out
      go_wp2_with (first
        | (go_at_call 109;refine cZ (HF51.out _ (HK.out _ HBl.out).2.2.1) ?_;rintro e w4 ⟨rfl,h4,o4⟩)
        | (refine Yr rfl 74 _ rfl (sayZ 0) (by kernel_rfl) ?_)
        | (refine wpList_store_row rfl 74 _ _ rfl W1.heap.size (sayZ 0) rfl rfl 74 _ ((o4.block _ (by have:=HLt.out;omega) (by have:=HLt.out;omega)).trans g2) (YF _ _ _ _ _ _ _ _ _ _ _ _ _) (by rfl) (by kernel_rfl) ?_))
      have g4h:=(o4.block W1.heap.size (by have:=HLt.out;omega) (by have:=HLt.out;omega)).trans g2
      refine bodyPost_ret (v:=.agg (sayZ 0)) (results_cell_row (p:=6) (ty:=74) rfl _ _ W1.heap.size 74 (sayZ 0) (0,0) _ rfl (setRow_heap _ _ _ _ _ _ g4h) Tryz.underlying74 rfl (YF _ _ _ _ _ _ _ _ _ _ _ _ _)) rfl ?_
      rw [<-HR.out,HQ.out]
      refine ⟨.slice none 0 0,.slice none 0 0,.slice none 0 0,.slice none 0 0,rfl,h4.keep (fun k hk=>by have hk':k=W1.heap.size:=hk;have:=HLt.out;omega) Y5,((Ofw.of_below g4).trans o4).new Y5 (fun i hi=>by have hi':i=W1.heap.size:=hi;have:=HLt.out;omega),yG _ _ 87 2,yG _ _ 3 1,yG _ _ 3 1,[],0,yG _ _ 58 1,xB _ _ 0⟩
    · have hk11:k<=11:=by omega
      clear k12
      by_cases hxk:1<=k/\x=xC k
      · obtain ⟨h1,hxk⟩:=hxk
        have HQ:Hid (sayT m x s=zy m.vars k (yh (yY k m) s)):=by
          show _=_
          have h0:=y4S x k h1 hk11 hxk
          unfold sayT
          rw [h0,if_neg (by omega)]
        obtain ⟨pr,hidx⟩:=Ki k h1 hk11
        have hE:=y4T k h1 hk11
        have HC:Hid (∀ (S:Nat) (w':World),Ln w0 m.vars (.slice va m.vars.length vp) b (yh (yY k m) s) w'->w'.heap[S]?=some (.cells (sayZ (k:Int)) 74 (0,0))->w0.heap.size<=S->w.heap.size<=w'.heap.size->Calls Tryz.prog (fnK k) #[.pointer (some ⟨b,0,none⟩),.pointer (some ⟨S,0,none⟩)] w' (SO w0 m.vars (.slice va m.vars.length vp) b S w.heap.size (zy m.vars k (yh (yY k m) s)) w')):=fun S w' a1 a2 a3 a4=>y4U k h1 hk11 S w.heap.size w' a1 a2 a3 a4
        obtain ⟨F,hF⟩:∃ F,fnK k=F:=⟨_,rfl⟩
        obtain ⟨Wd,hWd⟩:∃ Wd,yc (xC k)=Wd:=⟨_,rfl⟩
        have hXW:X=Wd:=by rw [<-HXX.out,<-hWd,hxk]
        subst hXW
        rw [hF] at hidx hE HC
        rw [hWd] at hidx
        obtain ⟨e1,hee⟩:∃ e,yY k m=e:=⟨_,rfl⟩
        have HMk:Hid (∀ w',Calls Tryz.prog 110 #[.int .i64 (k:Int),.agg #[.slice va m.vars.length vp,.slice ca m.cons.length cp,.bool m.has,vg]] w' fun e w''=>e=.returned (.int .i64 e1)/\Below w'.heap.size w' w''):=fun w'=>by
          have:=HM.out k w'
          rw [hee] at this
          exact this
        rw [hee] at HQ HC
        obtain ⟨Q,hQ⟩:∃ Q,zy m.vars k (yh e1 s)=Q:=⟨_,rfl⟩
        rw [hQ] at HQ HC
        have HB:Hid (b<w.heap.size):=HLt.out.1
        have hkl:decide ((k:Int)<12)=true:=decide_eq_true (by omega)
        clear h1 hF hWd hxk hee hk hk11 HJ HM HX HXX hQ
        go_wp2_with (first
          | (refine Yr rfl 61 _ rfl (conZ k) (by kernel_rfl) ?_)
          | (refine Yr rfl 74 _ rfl (sayZ k) (by kernel_rfl) ?_)
          | (refine wpList_store_row rfl 74 _ _ rfl (wr.heap.size+1) (sayZ k) rfl rfl 74 _ (heap_alloc2_new wr _ _) (YF _ _ _ _ _ _ _ _ _ _ _ _ _) (by rfl) (by kernel_rfl) ?_
             obtain ⟨W5,hW5⟩:∃ W5,((wr.alloc (.cells #[.string X,.func (.func F) #[] #[],.func (.func pr) #[] #[]] 105)).alloc (.cells #[.string ⟨#[]⟩,.int .i64 0,.int .i64 0,.int .i64 0,.int .i64 0,.slice none 0 0,.int .i64 0,.int .i64 0,.int .i64 0,.int .i64 0,.slice none 0 0,.slice none 0 0,.slice none 0 0] 74)).setRow (wr.heap.size+1) (sayZ k)=W5:=⟨_,rfl⟩
             rw [hW5]
             have H5:Hid ((Below W2.heap.size W2 W5/\Ofw (fun _=>False) wr W5)/\W5.heap[wr.heap.size]?=some (.cells #[.string X,.func (.func F) #[] #[],.func (.func pr) #[] #[]] 105 (0,0))/\W5.heap[wr.heap.size+1]?=some (.cells (sayZ k) 74 (0,0))):=y4P HBl.out hW5
             clear hW5
             obtain ⟨⟨n0,n1,n2,n3⟩,_⟩:=box4 (HK.out _ H5.out.1.1).1
             have f1:=(Yc H5.out.2.1).2.1)
          | (go_at_call 110;refine cZ (HMk.out _) ?_;rintro e w6 ⟨rfl,hb6⟩;have H6:Hid (Ln w0 m.vars (.slice va m.vars.length vp) b s w6/\Ofw (fun _=>False) W5 w6):=⟨(HK.out _ H5.out.1.1).2.2.1.below hb6,Ofw.of_below hb6⟩;clear hb6)
          | (go_at_call 109;refine cZ (HFm.out e1 _ H6.out.1) ?_;rintro e w7 ⟨rfl,h7,o7⟩;have H7:Hid (Ln w0 m.vars (.slice va m.vars.length vp) b (yh e1 s) w7/\Ofw (fun k=>k=b) W5 w7):=⟨h7,(H6.out.2.less fun k hk=>hk.elim).trans o7⟩;clear h7 o7;have HS7:Hid (w7.heap[wr.heap.size]?=some (.cells #[.string X,.func (.func F) #[] #[],.func (.func pr) #[] #[]] 105 (0,0))/\w7.heap[wr.heap.size+1]?=some (.cells (sayZ k) 74 (0,0))/\w.heap.size<=wr.heap.size/\w.heap.size<=w7.heap.size/\w7.heap[W1.heap.size]?=some (.cells (sayZ 0) 74)):=y4Q H5.out.2.1 H5.out.2.2 H7.out.2 (HK.out _ H5.out.1.1).2.1 HLt.out.1 HLt.out.2.2.2 HLt.out.2.2.1 HBl.out;have f1:=(Yc HS7.out.1).2.1))
        refine cZ (HC.out (wr.heap.size+1) w7 H7.out.1 HS7.out.2.1 (by have h1:=HLt.out;have h2:=HS7.out.2.2.1;omega) HS7.out.2.2.2.1) ?_
        rintro e w8 ⟨rfl,h8,o8,vt,vx,vb,vr,hsy⟩
        obtain ⟨vs,D,hr,hrs⟩:=hsy.r
        obtain ⟨at1,ct1,hvt⟩:=yr hsy.t
        obtain ⟨ax1,cx1,hvx⟩:=yr hsy.x
        obtain ⟨ab1,cb1,hvb⟩:=yr hsy.b
        obtain ⟨ar1,cr1,hvr⟩:=yr hr
        have hone:(sayC Q.1.v.name Q.1.v.lo Q.1.v.hi Q.1.c.kind Q.1.c.op vt Q.1.c.k Q.1.c.v Q.1.c.x Q.1.c.y vx vb vr).all (·.oneCell')=true:=by
          rw [hvt,hvx,hvb,hvr]
          exact K9 _ _ _ _ _ _ _ _ _ _ _ _ _ _ _ _ _ _ _ _ _
        have hsz:=YF Q.1.v.name Q.1.v.lo Q.1.v.hi Q.1.c.kind Q.1.c.op vt Q.1.c.k Q.1.c.v Q.1.c.x Q.1.c.y vx vb vr
        have hold:(sayZ 0).size=(sayC Q.1.v.name Q.1.v.lo Q.1.v.hi Q.1.c.kind Q.1.c.op vt Q.1.c.k Q.1.c.v Q.1.c.x Q.1.c.y vx vb vr).size:=rfl
        have h8c:=hsy.c
        have hq8:w8.heap[W1.heap.size]?=some (.cells (sayZ 0) 74):=(o8.block _ (Array.getElem?_eq_some_iff.1 HS7.out.2.2.2.2).1 (by have h1:=HLt.out;have h2:=HS7.out.2.2.1;have h3:=HBl.out.size;omega)).trans HS7.out.2.2.2.2
        have HY:Hid (SyV w.heap.size Q.1 vt vx vb vr w8):=⟨hsy.t,hsy.x,hsy.b,vs,D,hr,hrs⟩
        obtain ⟨C8,hC8⟩:∃ C,sayC Q.1.v.name Q.1.v.lo Q.1.v.hi Q.1.c.kind Q.1.c.op vt Q.1.c.k Q.1.c.v Q.1.c.x Q.1.c.y vx vb vr=C:=⟨_,rfl⟩
        rw [hC8] at hone hsz hold h8c
        have HP:Hid (sayC Q.1.v.name Q.1.v.lo Q.1.v.hi Q.1.c.kind Q.1.c.op vt Q.1.c.k Q.1.c.v Q.1.c.x Q.1.c.y vx vb vr=C8/\Ln w0 m.vars (.slice va m.vars.length vp) b Q.2 w8/\Ofw (fun k=>k=b∨k=wr.heap.size+1) w7 w8):=⟨hC8,h8,o8⟩
        have HD:Hid (w8.heap[wr.heap.size+1]?=some (.cells C8 74 (0,0))/\(Tryz.prog.info? 74).map (·.size)=some C8.size/\(sayZ 0).size=C8.size/\C8.all (·.oneCell')=true/\w8.heap[W1.heap.size]?=some (.cells (sayZ 0) 74)):=⟨h8c,hsz,hold,hone,hq8⟩
        clear hC8 h8 o8 hsy hr hrs hvt hvx hvb hvr hone hsz hold h8c hq8 n0 n1 n2 n3 f1 hidx hE
        go_wp2_with (first
          | (refine wpList_load_row rfl 74 _ rfl (wr.heap.size+1) rfl 74 C8 (0,0) _ HD.out.1 Tryz.underlying74 rfl HD.out.2.1 ?_)
          | (refine wpList_store_row rfl 74 _ _ rfl W1.heap.size C8 rfl rfl 74 (sayZ 0) HD.out.2.2.2.2 HD.out.2.1 HD.out.2.2.1 HD.out.2.2.2.1 ?_))
        refine bodyPost_ret (v:=.agg C8) (results_cell_row (p:=6) (ty:=74) rfl _ _ W1.heap.size 74 C8 (0,0) _ rfl (setRow_heap _ _ _ _ _ _ HD.out.2.2.2.2) Tryz.underlying74 rfl HD.out.2.1) rfl ?_
        rw [<-HR.out,HQ.out]
        have hO:Ofw (fun k=>k=b) w w8:=((Ofw.of_below (HK.out _ H5.out.1.1).2.2.2.1).trans H7.out.2).new HP.out.2.2 (fun i hi=>by have h2:=HS7.out.2.2.1;omega)
        refine ⟨vt,vx,vb,vr,by rw [HP.out.1],HP.out.2.1.keep (fun k hk=>by have hk':k=W1.heap.size:=hk;have:=HLt.out;omega) Y5,hO.new Y5 (fun i hi=>by have hi':i=W1.heap.size:=hi;have:=HLt.out;omega),HY.out.off Y5 (fun k hk c t e=>?_)⟩
        have hk':k=W1.heap.size:=hk
        rw [hk',HD.out.2.2.2.2] at e
        injection e with e
        injection e with _ e _
        subst e
        decide
      · have hnx:x≠xC k:=fun e=>by
          by_cases h1:1<=k
          · exact hxk ⟨h1,e⟩
          · have h0:k=0:=by omega
            subst h0
            exact HX.out e
        have HJ2:Hid (∀ j,1<=j->j<k+1->x≠xC j):=fun j h1 h2=>by
          by_cases hj:j=k
          · rw [hj];exact hnx
          · exact HJ.out j h1 (by omega)
        obtain ⟨Wd,hWd⟩:∃ Wd,yc (xC k)=Wd:=⟨_,rfl⟩
        have hq:(Wd.toList==X.toList)=false:=by
          rw [<-hWd,<-HXX.out,Zo,decide_eq_false (fun e=>hnx e.symm)]
        have hkl:decide ((k:Int)<12)=true:=decide_eq_true (by omega)
        have HBn:Hid (∀ o,Below W2.heap.size W2 (wr.alloc o)):=fun o=>HBl.out.alloc HBl.out.size o
        by_cases h1:1<=k
        · obtain ⟨pr,hidx⟩:=Ki k h1 hk11
          obtain ⟨F,hF⟩:∃ F,fnK k=F:=⟨_,rfl⟩
          rw [hF,hWd] at hidx
          clear hF hWd hnx hxk h1 HJ HM HXX
          go_wp2_with fail
          go_roundw
          case measure=>simp only [RowKit.intOf];omega
          case rel=>exact ⟨k+1,by simp,by omega,HJ2.out,HBn.out _⟩
        · have h0:k=0:=by omega
          subst h0
          have hidx:=y4V
          have hw0:yc (xC 0)=yc []:=rfl
          rw [<-hw0,hWd] at hidx
          clear hWd hnx hxk h1 HJ HM HXX hw0
          go_wp2_with fail
          go_roundw
          case measure=>simp only [RowKit.intOf];omega
          case rel=>exact ⟨1,by simp,by omega,HJ2.out,HBn.out _⟩
end Go.Proofs.YthohnmplbjhjaaaGreatDoor

namespace Go.Proofs.YthohnmplbjhjaaaGreatDoor
open Go Go.RowKit Go.Shelf Go.Lib
attribute [local go_sem] Oper.semAt_some
def encV (v:Md.Vr):List Value:=[.string v.name,.int .i64 v.lo,.int .i64 v.hi]
structure CnL where
 c:Md.Cn
 t:Value
 x:Value
 b:Value
 r:Value
def CnL.cells (d:CnL):List Value:=[.int .i64 d.c.kind,.int .i64 d.c.op,d.t,.int .i64 d.c.k,.int .i64 d.c.v,.int .i64 d.c.x,.int .i64 d.c.y,d.x,d.b,d.r]
structure MoIs (B P:Nat) (m:Md.Mo) (vv vc vg:Value) (W:World):Prop where
 o:W.heap[P]?=some (.cells #[vv,vc,.bool m.has,vg] 26 (0,0))
 lo:B<=P
 v:W.ownsRow B 56 3 vv m.vars.length (encL encV m.vars)
 k:∃ L:List CnL,m.cons=L.map (·.c)/\W.ownsRow B 61 10 vc m.cons.length (L.flatMap CnL.cells)/\∀ d∈L,SyV B ⟨zv,d.c⟩ d.t d.x d.b d.r W
 g:W.ownsRow B 87 2 vg m.goal.length (encL encT m.goal)
def MoI (B P:Nat) (m:Md.Mo) (W:World):Prop:=∃ vv vc vg,MoIs B P m vv vc vg W
theorem MoIs.off {B P:Nat} {m:Md.Mo} {vv vc vg:Value} {w w':World} {S:Nat->Prop} (h:MoIs B P m vv vc vg w) (o:Ofw S w w') (hS:∀ k,S k->k≠P/\∀ c t,w.heap[k]?=some (.cells c t (0,0))->t≠56/\t≠61/\t≠87/\t≠3/\t≠58):MoIs B P m vv vc vg w':=by
 obtain ⟨L,hL,hk,hs⟩:=h.k
 refine ⟨(o.block P (Array.getElem?_eq_some_iff.1 h.o).1 (fun e=>(hS P e).1 rfl)).trans h.o,h.lo,?_,⟨L,hL,?_,fun d hd=>?_⟩,?_⟩
 ·exact yC h.v (fun g hg e=>by obtain ⟨_,cur,hc⟩:=yn h.v hg;exact ((hS g e).2 cur 56 hc).1 rfl) o
 ·exact yC hk (fun g hg e=>by obtain ⟨_,cur,hc⟩:=yn hk hg;exact ((hS g e).2 cur 61 hc).2.1 rfl) o
 ·exact (hs d hd).off o (fun k hk c t e=>by obtain ⟨_,_,h3,h4,h5⟩:=(hS k hk).2 c t e;exact ⟨h3,h4,h5⟩)
 ·exact yC h.g (fun g hg e=>by obtain ⟨_,cur,hc⟩:=yn h.g hg;exact ((hS g e).2 cur 87 hc).2.2.1 rfl) o
theorem xN {w w':World} {B:Nat} {e:TypeId} {size:Nat} {v:Value} {n:Nat} {xs:List Value} {S:Nat->Prop} (h:w.ownsRow B e size v n xs) (o:Ofw S w w') (hS:∀ k,S k->∀ c t,w.heap[k]?=some (.cells c t (0,0))->t≠e):w'.ownsRow B e size v n xs:=
 yC h (fun g hg eg=>by obtain ⟨_,cur,hc⟩:=yn h hg;exact hS g eg cur e hc rfl) o
theorem zb {w:World} {k:Nat} {c c':Array Value} {t t':TypeId} (h:w.heap[k]?=some (.cells c t (0,0))) (h':w.heap[k]?=some (.cells c' t' (0,0))):t'=t:=by
 rw [h] at h'
 injection h' with h'
 injection h' with _ h' _
 exact h'.symm
theorem y3Z {w:World} {B:Nat} {e:TypeId} {size:Nat} {v:Value} {n:Nat} {xs ys:List Value} (h:w.ownsRow B e size v n xs) (h':w.ownsRow B e size v n ys):xs=ys:=by
 rcases h.2 with ⟨_,h0⟩ | ⟨g,cap,cur,hv,_,hc,_,_,_,ht⟩
 ·subst h0
  have h1:=h.1
  have h2:=h'.1
  simp only [Nat.zero_mul,List.length_eq_zero_iff] at h1 h2
  rw [h1,h2]
 ·rcases h'.2 with ⟨hv',_⟩ | ⟨g',cap',cur',hv',_,hc',_,_,_,ht'⟩
  ·rw [hv] at hv';cases hv'
  ·rw [hv] at hv'
   injection hv' with hv' _ _
   injection hv' with hv'
   injection hv' with hv' _ _
   subst hv'
   rw [hc] at hc'
   injection hc' with hc'
   injection hc' with hc' _ _
   subst hc'
   rw [<-ht,<-ht']
theorem MoIs.more_v {B P:Nat} {m:Md.Mo} {vv vc vg v':Value} {w w':World} (h:MoIs B P m vv vc vg w) (y:Md.Vr) (hr:w'.ownsRow B 56 3 v' (m.vars.length+1) (encL encV m.vars++encV y)) (ho:Ofw (fun k=>vv.ownBlock=some k) w w') :
  MoIs B P { m with vars:=m.vars++[y] } v' vc vg (w'.setCell ⟨P,0,none⟩ v')/\Ofw (fun k=>k=P∨vv.ownBlock=some k) w (w'.setCell ⟨P,0,none⟩ v'):=by
 have hP:w'.heap[P]?=some (.cells #[vv,vc,.bool m.has,vg] 26 (0,0)):=(ho.block P (Array.getElem?_eq_some_iff.1 h.o).1 (fun e=>by
  obtain ⟨_,cur,hc⟩:=yn h.v e
  exact absurd (zb h.o hc) (by decide))).trans h.o
 have os:Ofw (fun k=>k=P) w' (w'.setCell ⟨P,0,none⟩ v'):=Ofw.set _ rfl
 have oo:Ofw (fun k=>k=P∨vv.ownBlock=some k) w (w'.setCell ⟨P,0,none⟩ v'):=(ho.less fun k hk=>.inr hk).trans (os.less fun k hk=>.inl hk)
 have tt:∀ k,(k=P∨vv.ownBlock=some k)->∀ c t,w.heap[k]?=some (.cells c t (0,0))->t=26∨t=56:=fun k hk c t e=>by
  rcases hk with hk | hk
  ·subst hk;exact .inl (zb h.o e)
  ·obtain ⟨_,cur,hc⟩:=yn h.v hk
   exact .inr (zb hc e)
 obtain ⟨L,hL,hk,hs⟩:=h.k
 refine ⟨⟨yD hP 0 v',h.lo,?_,⟨L,hL,xN hk oo (fun k hk c t e=>by rcases tt k hk c t e with rfl | rfl <;> decide),fun d hd=>(hs d hd).off oo (fun k hk c t e=>by rcases tt k hk c t e with rfl | rfl <;> decide)⟩,xN h.g oo (fun k hk c t e=>by rcases tt k hk c t e with rfl | rfl <;> decide)⟩,oo⟩
 show World.ownsRow _ B 56 3 v' (m.vars++[y]).length (encL encV (m.vars++[y]))
 rw [Yz,List.length_append]
 exact xN hr os (fun k hk c t e=>by have hk':k=P:=hk;subst hk';rw [zb hP e];decide)
theorem MoIs.more_c {B P:Nat} {m:Md.Mo} {vv vc vg v':Value} {w w':World} (h:MoIs B P m vv vc vg w) (d:CnL) (hd:SyV B ⟨zv,d.c⟩ d.t d.x d.b d.r w) (hr:∀ xs,w.ownsRow B 61 10 vc m.cons.length xs->w'.ownsRow B 61 10 v' (m.cons.length+1) (xs++d.cells)) (ho:Ofw (fun k=>vc.ownBlock=some k) w w') :
  MoIs B P { m with cons:=m.cons++[d.c] } vv v' vg (w'.setCell ⟨P,1,none⟩ v')/\Ofw (fun k=>k=P∨vc.ownBlock=some k) w (w'.setCell ⟨P,1,none⟩ v'):=by
 obtain ⟨L,hL,hk,hs⟩:=h.k
 have hP:w'.heap[P]?=some (.cells #[vv,vc,.bool m.has,vg] 26 (0,0)):=(ho.block P (Array.getElem?_eq_some_iff.1 h.o).1 (fun e=>by
  obtain ⟨_,cur,hc⟩:=yn hk e
  exact absurd (zb h.o hc) (by decide))).trans h.o
 have os:Ofw (fun k=>k=P) w' (w'.setCell ⟨P,1,none⟩ v'):=Ofw.set _ rfl
 have oo:Ofw (fun k=>k=P∨vc.ownBlock=some k) w (w'.setCell ⟨P,1,none⟩ v'):=(ho.less fun k hk=>.inr hk).trans (os.less fun k hk=>.inl hk)
 have tt:∀ k,(k=P∨vc.ownBlock=some k)->∀ c t,w.heap[k]?=some (.cells c t (0,0))->t=26∨t=61:=fun k hk' c t e=>by
  rcases hk' with hk' | hk'
  ·subst hk';exact .inl (zb h.o e)
  ·obtain ⟨_,cur,hc⟩:=yn hk hk'
   exact .inr (zb hc e)
 refine ⟨⟨yD hP 1 v',h.lo,xN h.v oo (fun k hk c t e=>by rcases tt k hk c t e with rfl | rfl <;> decide),⟨L++[d],by simp [hL],?_,fun d' hd'=>?_⟩,xN h.g oo (fun k hk c t e=>by rcases tt k hk c t e with rfl | rfl <;> decide)⟩,oo⟩
 ·show World.ownsRow _ B 61 10 v' (m.cons++[d.c]).length _
  rw [List.length_append,List.flatMap_append]
  have h1:=hr _ hk
  have h2:([d].flatMap CnL.cells)=d.cells:=by simp
  rw [h2]
  exact xN h1 os (fun k hk c t e=>by have hk':k=P:=hk;subst hk';rw [zb hP e];decide)
 ·rcases List.mem_append.1 hd' with hd' | hd'
  ·exact (hs d' hd').off oo (fun k hk c t e=>by rcases tt k hk c t e with rfl | rfl <;> decide)
  ·rw [List.mem_singleton.1 hd']
   exact hd.off oo (fun k hk c t e=>by rcases tt k hk c t e with rfl | rfl <;> decide)
theorem MoIs.goal {B P:Nat} {m:Md.Mo} {vv vc vg v':Value} {w w':World} {l:List (Int × Int)} (h:MoIs B P m vv vc vg w) (hr:w.ownsRow B 87 2 v' l.length (encL encT l)) (hw:w'.heap[P]?=some (.cells #[vv,vc,.bool true,v'] 26 (0,0))) (ho:Ofw (fun k=>k=P) w w') :
  MoIs B P { m with has:=true,goal:=l } vv vc v' w':=by
 obtain ⟨L,hL,hk,hs⟩:=h.k
 have tt:∀ k,k=P->∀ c t,w.heap[k]?=some (.cells c t (0,0))->t=26:=fun k hk c t e=>by
  subst hk;exact zb h.o e
 exact ⟨hw,h.lo,xN h.v ho (fun k hk c t e=>by rw [tt k hk c t e];decide),⟨L,hL,xN hk ho (fun k hk c t e=>by rw [tt k hk c t e];decide),fun d hd=>(hs d hd).off ho (fun k hk c t e=>by rw [tt k hk c t e];decide)⟩,xN hr ho (fun k hk c t e=>by rw [tt k hk c t e];decide)⟩
end Go.Proofs.YthohnmplbjhjaaaGreatDoor

namespace Go.Proofs.YthohnmplbjhjaaaGreatDoor
open Go Go.RowKit Go.Shelf Go.Lib
attribute [local go_sem] Oper.semAt_some
set_option maxRecDepth 100000 in
set_option maxHeartbeats 4000000 in
theorem QL {m:Md.Mo} {y:Sy} {B P:Nat} {vv vc vg vt vx vb vr:Value} (w:World) (h:MoIs B P m vv vc vg w) (hs:SyV B y vt vx vb vr w) (hnv:m.vars.length<=1000) (hnc:m.cons.length<=1000):Calls Tryz.prog 50 #[.pointer (some ⟨P,0,none⟩),.agg (sayC y.v.name y.v.lo y.v.hi y.c.kind y.c.op vt y.c.k y.c.v y.c.x y.c.y vx vb vr)] w fun e w'=>e=.returned (.tuple #[])/\MoI B P (layT m y) w'/\Ofw (fun k=>k=P∨vv.ownBlock=some k∨vc.ownBlock=some k) w w':=by
 obtain ⟨at1,ct1,hvt⟩:=yr hs.t
 obtain ⟨ax1,cx1,hvx⟩:=yr hs.x
 obtain ⟨ab1,cb1,hvb⟩:=yr hs.b
 obtain ⟨vs,D,hr,hrs⟩:=hs.r
 obtain ⟨ar1,cr1,hvr⟩:=yr hr
 subst hvt hvx hvb hvr
 obtain ⟨av,cv,hvv⟩:=yr h.v
 obtain ⟨L,hL,hk,hsL⟩:=h.k
 obtain ⟨ac,cc,hvc⟩:=yr hk
 subst hvv hvc
 obtain ⟨W1,hW1⟩:∃ W1,w.alloc (.cells (sayC y.v.name y.v.lo y.v.hi y.c.kind y.c.op (.slice at1 y.c.terms.length ct1) y.c.k y.c.v y.c.x y.c.y (.slice ax1 y.c.xs.length cx1) (.slice ab1 y.c.table.length cb1) (.slice ar1 y.c.rows.length cr1)) 74)=W1:=⟨_,rfl⟩
 obtain ⟨N,hN⟩:∃ N,w.heap.size=N:=⟨_,rfl⟩
 have hb1:Below w.heap.size w W1:=hW1▸(Below.refl _ _).alloc (Nat.le_refl _) _
 have hs1:W1.heap.size=N+1:=by rw [<-hW1,<-hN];simp
 have hN1:W1.heap[N]?=some (.cells (sayC y.v.name y.v.lo y.v.hi y.c.kind y.c.op (.slice at1 y.c.terms.length ct1) y.c.k y.c.v y.c.x y.c.y (.slice ax1 y.c.xs.length cx1) (.slice ab1 y.c.table.length cb1) (.slice ar1 y.c.rows.length cr1)) 74):=by rw [<-hW1,<-hN];exact heap_alloc_new w _
 have hPl:=(Array.getElem?_eq_some_iff.1 h.o).1
 have hlo:=h.lo
 have hPN:P<N:=by omega
 have hP1:W1.heap[P]?=some (.cells #[.slice av m.vars.length cv,.slice ac m.cons.length cc,.bool m.has,vg] 26 (0,0)):=(hb1.block _ hPl).trans h.o
 have ob:Ofw (fun _=>False) w W1:=Ofw.of_below hb1
 have HM1:Hid (MoIs B P m (.slice av m.vars.length cv) (.slice ac m.cons.length cc) vg W1):=h.off ob (fun _ f=>f.elim)
 have HY1:Hid (SyV B y (.slice at1 y.c.terms.length ct1) (.slice ax1 y.c.xs.length cx1) (.slice ab1 y.c.table.length cb1) (.slice ar1 y.c.rows.length cr1) W1):=hs.off ob (fun _ f=>f.elim)
 have HO1:Hid (Ofw (fun _=>False) w W1):=ob
 have hm:Tryz.prog.follows .mixedOrders=true:=by kernel_rfl
 clear h hs hk hsL hL hr hrs
 refine (callsIn_wide (n:=5)).1 ?_
 refine callsIn_of_wp_marks Tryz.func50 rfl trivial ?_ rfl
 unfold sayC at hW1
 have e0:Value.agg (sayC y.v.name y.v.lo y.v.hi y.c.kind y.c.op (.slice at1 y.c.terms.length ct1) y.c.k y.c.v y.c.x y.c.y (.slice ax1 y.c.xs.length cx1) (.slice ab1 y.c.table.length cb1) (.slice ar1 y.c.rows.length cr1))=.agg #[.string y.v.name,.int .i64 y.v.lo,.int .i64 y.v.hi,.int .i64 y.c.kind,.int .i64 y.c.op,.slice at1 y.c.terms.length ct1,.int .i64 y.c.k,.int .i64 y.c.v,.int .i64 y.c.x,.int .i64 y.c.y,.slice ax1 y.c.xs.length cx1,.slice ab1 y.c.table.length cb1,.slice ar1 y.c.rows.length cr1]:=rfl
 rw [e0]
 clear e0
 simp only [Tryz.ntmps50,List.size_toArray,List.length_cons,List.length_nil,Nat.reduceAdd,Nat.reduceSub,Array.replicate_succ,Array.replicate_zero,List.push_toArray,List.append_toArray,List.nil_append,List.cons_append]
 have c3:W1.cell? ⟨N,3,none⟩=some (.int .i64 y.c.kind):=by rw [yd hN1 3];rfl
 by_cases k10:y.c.kind=10
 ·have k10':(y.c.kind==10)=true:=by simp [k10]
  have he:layT m y={ m with vars:=m.vars++[y.v] }:=by unfold layT;rw [if_pos k10]
  rw [he]
  clear he k10
  gi_wp2
  try rw [hN]
  refine zW (fun w'=>w'.cell? ⟨N,0,none⟩=some (.string y.v.name)/\w'.cell? ⟨N,1,none⟩=some (.int .i64 y.v.lo)/\w'.cell? ⟨N,2,none⟩=some (.int .i64 y.v.hi)) (fun w'=>w'.cell? ⟨P,0,none⟩=some (.slice av m.vars.length cv)) [11] hm ⟨⟨by (show World.cell? _ _=_);rw [yd (show W1.drew.heap[N]?=_ from hN1) 0];rfl,by (show World.cell? _ _=_);rw [yd (show W1.drew.heap[N]?=_ from hN1) 1];rfl,by (show World.cell? _ _=_);rw [yd (show W1.drew.heap[N]?=_ from hN1) 2];rfl⟩,by (show World.cell? _ _=_);rw [yd (show W1.drew.heap[P]?=_ from hP1) 0];rfl⟩ (fun hHeld=>?_)
  obtain ⟨W2,hW2⟩:∃ W2,W1.drew=W2:=⟨_,rfl⟩
  rw [hW2] at hHeld ⊢
  have hN2:W2.heap[N]?=some (.cells (sayC y.v.name y.v.lo y.v.hi y.c.kind y.c.op (.slice at1 y.c.terms.length ct1) y.c.k y.c.v y.c.x y.c.y (.slice ax1 y.c.xs.length cx1) (.slice ab1 y.c.table.length cb1) (.slice ar1 y.c.rows.length cr1)) 74):=hW2▸hN1
  have hP2:W2.heap[P]?=some (.cells #[.slice av m.vars.length cv,.slice ac m.cons.length cc,.bool m.has,vg] 26 (0,0)):=hW2▸hP1
  have od:Ofw (fun _=>False) W1 W2:=hW2▸Ofw.of_below (Below.refl _ _).drew
  have HM2:Hid (MoIs B P m (.slice av m.vars.length cv) (.slice ac m.cons.length cc) vg W2):=HM1.out.off od (fun _ f=>f.elim)
  have HY2:Hid (SyV B y (.slice at1 y.c.terms.length ct1) (.slice ax1 y.c.xs.length cx1) (.slice ab1 y.c.table.length cb1) (.slice ar1 y.c.rows.length cr1) W2):=HY1.out.off od (fun _ f=>f.elim)
  have HO2:Hid (Ofw (fun _=>False) w W2):=HO1.out.trans od
  have hs2:Hid (W2.heap.size=N+1):=by rw [<-hW2];exact hs1
  clear hW2 od HM1 HY1 HO1
  have hown:=HM2.out.v
  refine yw (i:=0) (oi:=⟨some 20,.move (.tmp 0),_,_,_,none⟩) (v:=?vv0) rfl (by kernel_rfl) (by kernel_rfl) (by kernel_rfl) (by kernel_rfl) (by kernel_rfl) yt ⟨Or.inl ⟨by rfl,?hv0⟩,fun _=>rfl,fun _ e=>by cases e⟩ (by assumption) ?rv0
  case hv0=>(intro w hSw;(try dsimp only at hSw);go_simp;try (with_reducible rfl))
  try simp only [Act.put,qa,qb,qc]
  refine yw (i:=1) (oi:=⟨some 21,.move (.tmp 0),_,_,_,none⟩) (v:=?vv1) rfl (by kernel_rfl) (by kernel_rfl) (by kernel_rfl) (by kernel_rfl) (by kernel_rfl) yt ⟨Or.inl ⟨by rfl,?hv1⟩,fun _=>rfl,fun _ e=>by cases e⟩ (by assumption) ?rv1
  case hv1=>(intro w hSw;(try dsimp only at hSw);go_simp;try (with_reducible rfl))
  try simp only [Act.put,qa,qb,qc]
  refine yw (i:=2) (oi:=⟨some 22,.nilCheck (.tmp 21),_,_,_,none⟩) (v:=?vv2) rfl (by kernel_rfl) (by kernel_rfl) (by kernel_rfl) (by kernel_rfl) (by kernel_rfl) yt ⟨Or.inl ⟨by rfl,?hv2⟩,fun _=>rfl,fun _ e=>by cases e⟩ (by assumption) ?rv2
  case hv2=>(intro w hSw;(try dsimp only at hSw);go_simp;try (with_reducible rfl))
  try simp only [Act.put,qa,qb,qc]
  refine yw (i:=3) (oi:=⟨some 23,.fieldAddr 26 (.tmp 22) 0,_,_,_,none⟩) (v:=?vv3) rfl (by kernel_rfl) (by kernel_rfl) (by kernel_rfl) (by kernel_rfl) (by kernel_rfl) yt ⟨Or.inl ⟨by rfl,?hv3⟩,fun _=>rfl,fun _ e=>by cases e⟩ (by assumption) ?rv3
  case hv3=>(intro w hSw;(try dsimp only at hSw);go_simp;try (with_reducible rfl))
  try simp only [Act.put,qa,qb,qc]
  refine xY (i:=4) (oi:=⟨some 24,.load 22 (.tmp 23),_,_,_,none⟩) (v:=?vv4) rfl (by kernel_rfl) (by kernel_rfl) (by kernel_rfl) (by kernel_rfl) (by kernel_rfl) (by kernel_rfl) yt ⟨Or.inl ⟨by rfl,?hv4⟩,fun _=>rfl,fun _ e=>by cases e⟩ (by assumption) ?rv4
  case hv4=>(intro w hSw;(try dsimp only at hSw);go_simp;try (with_reducible rfl))
  try simp only [Act.put,qa,qb,qc]
  refine yw (i:=5) (oi:=⟨some 25,.fieldAddr 74 (.tmp 3) 0,_,_,_,none⟩) (v:=?vv5) rfl (by kernel_rfl) (by kernel_rfl) (by kernel_rfl) (by kernel_rfl) (by kernel_rfl) yt ⟨Or.inl ⟨by rfl,?hv5⟩,fun _=>rfl,fun _ e=>by cases e⟩ (by assumption) ?rv5
  case hv5=>(intro w hSw;(try dsimp only at hSw);go_simp;try (with_reducible rfl))
  try simp only [Act.put,qa,qb,qc]
  refine yw (i:=6) (oi:=⟨some 26,.load 56 (.tmp 25),_,_,_,none⟩) (v:=?vv6) rfl (by kernel_rfl) (by kernel_rfl) (by kernel_rfl) (by kernel_rfl) (by kernel_rfl) yt ⟨Or.inl ⟨by rfl,?hv6⟩,fun _=>rfl,fun _ e=>by cases e⟩ (by assumption) ?rv6
  case hv6=>(intro w hSw;(try dsimp only at hSw);go_simp;try (with_reducible rfl))
  try simp only [Act.put,qa,qb,qc]
  refine yo (i:=7) (o:=⟨some 27,.buildSlice 22 1 #[(0,.tmp 26)],_,_,_,none⟩) (by kernel_rfl) rfl (fun K hK=>?_)
  obtain ⟨V1,hV1⟩:∃ V1,W2.alloc (.cells #[.string y.v.name,.int .i64 y.v.lo,.int .i64 y.v.hi] 56)=V1:=⟨_,rfl⟩
  have bV:Below W2.heap.size W2 V1:=hV1▸(Below.refl _ _).alloc (Nat.le_refl _) _
  have hNV:=(bV.block _ (Array.getElem?_eq_some_iff.1 hN2).1).trans hN2
  have hPV:=(bV.block _ (Array.getElem?_eq_some_iff.1 hP2).1).trans hP2
  go_simp
  try rw [hV1]
  refine hK.out _ _ ⟨⟨by (show World.cell? _ _=_);rw [yd hNV 0];rfl,by (show World.cell? _ _=_);rw [yd hNV 1];rfl,by (show World.cell? _ _=_);rw [yd hNV 2];rfl⟩,fun _=>by (show World.cell? _ _=_);rw [yd hPV 0];rfl⟩ ?_
  clear hK K
  try simp only [Act.put,qa,qb,qc]
  refine yo (i:=8) (o:=⟨some 28,.call { callee:=.builtin .append,args:=#[.tmp 24,.tmp 27],argTypes:=#[22,22] },_,_,_,none⟩) (by kernel_rfl) rfl (fun K hK=>?_)
  refine xZ W2 V1 (.tmp 24) (.tmp 27) 22 56 (.agg #[.string ⟨#[]⟩,.int .i64 0,.int .i64 0]) 3 32 rfl Tryz.underlying22 (by kernel_rfl) rfl (by decide) B (.slice av m.vars.length cv) m.vars.length _ #[.string y.v.name,.int .i64 y.v.lo,.int .i64 y.v.hi] (by rfl) (by rfl) hV1 hown rfl (by intro u hu;simp at hu;rcases hu with rfl | rfl | rfl <;> rfl) (by unfold maxLen;omega) (by omega) (by have:=hs2.out;omega) (by rfl) ?_
  intro v5 w5 g1 g2 g3
  obtain ⟨ad5,cp5,hv5⟩:=yr g1
  subst hv5
  have hN5:=(g2.block _ (Array.getElem?_eq_some_iff.1 hN2).1 (fun e=>by obtain ⟨_,cur,hc⟩:=yn hown e;exact absurd (zb hN2 hc) (by decide))).trans hN2
  have hP5:=(g2.block _ (Array.getElem?_eq_some_iff.1 hP2).1 (fun e=>by obtain ⟨_,cur,hc⟩:=yn hown e;exact absurd (zb hP2 hc) (by decide))).trans hP2
  have zP5:=yu hP5 0
  have cP5:=yd hP5 0
  have hH5:(w5.cell? ⟨N,0,none⟩=some (.string y.v.name)/\w5.cell? ⟨N,1,none⟩=some (.int .i64 y.v.lo)/\w5.cell? ⟨N,2,none⟩=some (.int .i64 y.v.hi))/\w5.cell? ⟨P,0,none⟩=some (.slice av m.vars.length cv):=⟨⟨by (show World.cell? _ _=_);rw [yd hN5 0];rfl,by (show World.cell? _ _=_);rw [yd hN5 1];rfl,by (show World.cell? _ _=_);rw [yd hN5 2];rfl⟩,by (show World.cell? _ _=_);rw [yd hP5 0];rfl⟩
  refine hK.out _ _ ⟨hH5.1,fun _=>hH5.2⟩ ?_
  clear hK K
  try simp only [Act.put,qa,qb,qc]
  refine yw (i:=9) (oi:=⟨some 29,.nilCheck (.tmp 20),_,_,_,none⟩) (v:=?vv9) rfl (by kernel_rfl) (by kernel_rfl) (by kernel_rfl) (by kernel_rfl) (by kernel_rfl) yt ⟨Or.inl ⟨by rfl,?hv9⟩,fun _=>rfl,fun _ e=>by cases e⟩ (by assumption) ?rv9
  case hv9=>(intro w hSw;(try dsimp only at hSw);go_simp;try (with_reducible rfl))
  try simp only [Act.put,qa,qb,qc]
  refine yw (i:=10) (oi:=⟨some 30,.fieldAddr 26 (.tmp 29) 0,_,_,_,none⟩) (v:=?vv10) rfl (by kernel_rfl) (by kernel_rfl) (by kernel_rfl) (by kernel_rfl) (by kernel_rfl) yt ⟨Or.inl ⟨by rfl,?hv10⟩,fun _=>rfl,fun _ e=>by cases e⟩ (by assumption) ?rv10
  case hv10=>(intro w hSw;(try dsimp only at hSw);go_simp;try (with_reducible rfl))
  try simp only [Act.put,qa,qb,qc]
  refine Y0 (i:=11) (o:=⟨none,.store 22 (.tmp 30) (.tmp 28),_,_,_,none⟩) (by kernel_rfl) rfl (by kernel_rfl) (fun K hK=>?_)
  go_simp
  have hN6:(w5.setCell ⟨P,0,none⟩ (.slice ad5 (m.vars.length+1) cp5)).heap[N]?=some (.cells (sayC y.v.name y.v.lo y.v.hi y.c.kind y.c.op (.slice at1 y.c.terms.length ct1) y.c.k y.c.v y.c.x y.c.y (.slice ax1 y.c.xs.length cx1) (.slice ab1 y.c.table.length cb1) (.slice ar1 y.c.rows.length cr1)) 74):=(Below.heap_setCell _ ⟨P,0,none⟩ _ _ (by simp only;omega)).trans hN5
  refine hK.out _ _ ⟨by (show World.cell? _ _=_);rw [yd hN6 0];rfl,by (show World.cell? _ _=_);rw [yd hN6 1];rfl,by (show World.cell? _ _=_);rw [yd hN6 2];rfl⟩ ?_
  clear hK K
  try simp only [Act.put,qa,qb,qc]
  refine yZ (by kernel_rfl) ⟨rfl,?_⟩ _
  gi_wp2
  refine ⟨_,results_none rfl _ _ _,rfl,?_⟩
  obtain ⟨q1,q2⟩:=HM2.out.more_v y.v g1 (g2.less fun k hk=>hk)
  exact ⟨⟨_,_,_,q1⟩,(HO2.out.less fun k hk=>hk.elim).trans (q2.less fun k hk=>by
   rcases hk with hk | hk
   ·exact .inl hk
   ·exact .inr (.inl hk))⟩
 ·have k10':(y.c.kind==10)=false:=by simp [k10]
  by_cases k11:y.c.kind=11
  ·have k11':(y.c.kind==11)=true:=by simp [k11]
   have he:layT m y={ m with has:=true,goal:=y.c.terms }:=by unfold layT;rw [if_neg k10,if_pos k11]
   rw [he]
   clear he k10 k11
   gi_wp2
   try rw [hN]
   refine zW (fun w'=>w'.cell? ⟨N,5,none⟩=some (.slice at1 y.c.terms.length ct1)) (fun _=>True) [] hm ⟨by (show World.cell? _ _=_);rw [yd (show W1.drew.heap[N]?=_ from hN1) 5];rfl,trivial⟩ (fun hHeld=>?_)
   obtain ⟨W2,hW2⟩:∃ W2,W1.drew=W2:=⟨_,rfl⟩
   rw [hW2] at hHeld ⊢
   have hN2:W2.heap[N]?=some (.cells (sayC y.v.name y.v.lo y.v.hi y.c.kind y.c.op (.slice at1 y.c.terms.length ct1) y.c.k y.c.v y.c.x y.c.y (.slice ax1 y.c.xs.length cx1) (.slice ab1 y.c.table.length cb1) (.slice ar1 y.c.rows.length cr1)) 74):=hW2▸hN1
   have hP2:W2.heap[P]?=some (.cells #[.slice av m.vars.length cv,.slice ac m.cons.length cc,.bool m.has,vg] 26 (0,0)):=hW2▸hP1
   have od:Ofw (fun _=>False) W1 W2:=hW2▸Ofw.of_below (Below.refl _ _).drew
   have HM2:Hid (MoIs B P m (.slice av m.vars.length cv) (.slice ac m.cons.length cc) vg W2):=HM1.out.off od (fun _ f=>f.elim)
   have HY2:Hid (SyV B y (.slice at1 y.c.terms.length ct1) (.slice ax1 y.c.xs.length cx1) (.slice ab1 y.c.table.length cb1) (.slice ar1 y.c.rows.length cr1) W2):=HY1.out.off od (fun _ f=>f.elim)
   have HO2:Hid (Ofw (fun _=>False) w W2):=HO1.out.trans od
   clear hW2 od HM1 HY1 HO1
   refine yw (i:=0) (oi:=⟨some 33,.move (.tmp 0),_,_,_,none⟩) (v:=?vg0) rfl (by kernel_rfl) (by kernel_rfl) (by kernel_rfl) (by kernel_rfl) (by kernel_rfl) yt ⟨Or.inl ⟨by rfl,?hg0⟩,fun _=>rfl,fun _ e=>by cases e⟩ (by assumption) ?rg0
   case hg0=>(intro w hSw;(try dsimp only at hSw);go_simp;try (with_reducible rfl))
   try simp only [Act.put,qa,qb,qc]
   refine yw (i:=1) (oi:=⟨some 34,.move (.tmp 0),_,_,_,none⟩) (v:=?vg1) rfl (by kernel_rfl) (by kernel_rfl) (by kernel_rfl) (by kernel_rfl) (by kernel_rfl) yt ⟨Or.inl ⟨by rfl,?hg1⟩,fun _=>rfl,fun _ e=>by cases e⟩ (by assumption) ?rg1
   case hg1=>(intro w hSw;(try dsimp only at hSw);go_simp;try (with_reducible rfl))
   try simp only [Act.put,qa,qb,qc]
   refine yw (i:=2) (oi:=⟨some 35,.fieldAddr 74 (.tmp 3) 1,_,_,_,none⟩) (v:=?vg2) rfl (by kernel_rfl) (by kernel_rfl) (by kernel_rfl) (by kernel_rfl) (by kernel_rfl) yt ⟨Or.inl ⟨by rfl,?hg2⟩,fun _=>rfl,fun _ e=>by cases e⟩ (by assumption) ?rg2
   case hg2=>(intro w hSw;(try dsimp only at hSw);go_simp;try (with_reducible rfl))
   try simp only [Act.put,qa,qb,qc]
   refine yw (i:=3) (oi:=⟨some 36,.fieldAddr 61 (.tmp 35) 2,_,_,_,none⟩) (v:=?vg3) rfl (by kernel_rfl) (by kernel_rfl) (by kernel_rfl) (by kernel_rfl) (by kernel_rfl) yt ⟨Or.inl ⟨by rfl,?hg3⟩,fun _=>rfl,fun _ e=>by cases e⟩ (by assumption) ?rg3
   case hg3=>(intro w hSw;(try dsimp only at hSw);go_simp;try (with_reducible rfl))
   try simp only [Act.put,qa,qb,qc]
   refine yw (i:=4) (oi:=⟨some 37,.load 24 (.tmp 36),_,_,_,none⟩) (v:=?vg4) rfl (by kernel_rfl) (by kernel_rfl) (by kernel_rfl) (by kernel_rfl) (by kernel_rfl) yt ⟨Or.inl ⟨by rfl,?hg4⟩,fun _=>rfl,fun _ e=>by cases e⟩ (by assumption) ?rg4
   case hg4=>(intro w hSw;(try dsimp only at hSw);go_simp;try (with_reducible rfl))
   try simp only [Act.put,qa,qb,qc]
   refine yw (i:=5) (oi:=⟨some 38,.nilCheck (.tmp 33),_,_,_,none⟩) (v:=?vg5) rfl (by kernel_rfl) (by kernel_rfl) (by kernel_rfl) (by kernel_rfl) (by kernel_rfl) yt ⟨Or.inl ⟨by rfl,?hg5⟩,fun _=>rfl,fun _ e=>by cases e⟩ (by assumption) ?rg5
   case hg5=>(intro w hSw;(try dsimp only at hSw);go_simp;try (with_reducible rfl))
   try simp only [Act.put,qa,qb,qc]
   refine yw (i:=6) (oi:=⟨some 39,.fieldAddr 26 (.tmp 38) 2,_,_,_,none⟩) (v:=?vg6) rfl (by kernel_rfl) (by kernel_rfl) (by kernel_rfl) (by kernel_rfl) (by kernel_rfl) yt ⟨Or.inl ⟨by rfl,?hg6⟩,fun _=>rfl,fun _ e=>by cases e⟩ (by assumption) ?rg6
   case hg6=>(intro w hSw;(try dsimp only at hSw);go_simp;try (with_reducible rfl))
   try simp only [Act.put,qa,qb,qc]
   have cP2:=yd hP2 2
   have zP2:=yu hP2 2
   refine yo (i:=7) (o:=⟨none,.store 4 (.tmp 39) (.const (.bool true)),_,_,_,none⟩) (by kernel_rfl) rfl (fun K hK=>?_)
   go_simp
   obtain ⟨W3,hW3⟩:∃ W3,W2.setCell ⟨P,2,none⟩ (.bool true)=W3:=⟨_,rfl⟩
   try rw [hW3]
   have hN3:W3.heap[N]?=some (.cells (sayC y.v.name y.v.lo y.v.hi y.c.kind y.c.op (.slice at1 y.c.terms.length ct1) y.c.k y.c.v y.c.x y.c.y (.slice ax1 y.c.xs.length cx1) (.slice ab1 y.c.table.length cb1) (.slice ar1 y.c.rows.length cr1)) 74):=hW3▸(Below.heap_setCell W2 ⟨P,2,none⟩ _ _ (by simp only;omega)).trans hN2
   have hP3:W3.heap[P]?=some (.cells #[.slice av m.vars.length cv,.slice ac m.cons.length cc,.bool true,vg] 26 (0,0)):=hW3▸yD hP2 2 _
   have o3:Ofw (fun k=>k=P) W2 W3:=hW3▸Ofw.set _ rfl
   clear hW3 cP2 zP2
   have hH3:(W3.cell? ⟨N,5,none⟩=some (.slice at1 y.c.terms.length ct1))/\True:=⟨by (show World.cell? _ _=_);rw [yd hN3 5];rfl,trivial⟩
   refine hK.out _ _ ⟨hH3.1,fun _=>trivial⟩ ?_
   clear hK K
   try simp only [Act.put,qa,qb,qc]
   refine yw (i:=8) (oi:=⟨some 40,.nilCheck (.tmp 34),_,_,_,none⟩) (v:=?vg8) rfl (by kernel_rfl) (by kernel_rfl) (by kernel_rfl) (by kernel_rfl) (by kernel_rfl) yt ⟨Or.inl ⟨by rfl,?hg8⟩,fun _=>rfl,fun _ e=>by cases e⟩ (by assumption) ?rg8
   case hg8=>(intro w hSw;(try dsimp only at hSw);go_simp;try (with_reducible rfl))
   try simp only [Act.put,qa,qb,qc]
   refine yw (i:=9) (oi:=⟨some 41,.fieldAddr 26 (.tmp 40) 3,_,_,_,none⟩) (v:=?vg9) rfl (by kernel_rfl) (by kernel_rfl) (by kernel_rfl) (by kernel_rfl) (by kernel_rfl) yt ⟨Or.inl ⟨by rfl,?hg9⟩,fun _=>rfl,fun _ e=>by cases e⟩ (by assumption) ?rg9
   case hg9=>(intro w hSw;(try dsimp only at hSw);go_simp;try (with_reducible rfl))
   try simp only [Act.put,qa,qb,qc]
   have cP3:=yd hP3 3
   have zP3:=yu hP3 3
   refine yo (i:=10) (o:=⟨none,.store 24 (.tmp 41) (.tmp 37),_,_,_,none⟩) (by kernel_rfl) rfl (fun K hK=>?_)
   go_simp
   obtain ⟨W4,hW4⟩:∃ W4,W3.setCell ⟨P,3,none⟩ (.slice at1 y.c.terms.length ct1)=W4:=⟨_,rfl⟩
   try rw [hW4]
   have hN4:W4.heap[N]?=some (.cells (sayC y.v.name y.v.lo y.v.hi y.c.kind y.c.op (.slice at1 y.c.terms.length ct1) y.c.k y.c.v y.c.x y.c.y (.slice ax1 y.c.xs.length cx1) (.slice ab1 y.c.table.length cb1) (.slice ar1 y.c.rows.length cr1)) 74):=hW4▸(Below.heap_setCell W3 ⟨P,3,none⟩ _ _ (by simp only;omega)).trans hN3
   have hP4:W4.heap[P]?=some (.cells #[.slice av m.vars.length cv,.slice ac m.cons.length cc,.bool true,.slice at1 y.c.terms.length ct1] 26 (0,0)):=hW4▸yD hP3 3 _
   have o4:Ofw (fun k=>k=P) W2 W4:=o3.trans (hW4▸Ofw.set _ rfl)
   clear hW4 cP3 zP3
   refine hK.out _ _ ⟨by (show World.cell? _ _=_);rw [yd hN4 5];rfl,fun _=>trivial⟩ ?_
   clear hK K
   try simp only [Act.put,qa,qb,qc]
   refine yZ (by kernel_rfl) ⟨rfl,?_⟩ _
   gi_wp2
   refine ⟨_,results_none rfl _ _ _,rfl,⟨_,_,_,HM2.out.goal HY2.out.t hP4 o4⟩,(HO2.out.less fun k hk=>hk.elim).trans (o4.less fun k hk=>.inl hk)⟩
  ·have k11':(y.c.kind==11)=false:=by simp [k11]
   have he:layT m y={ m with cons:=m.cons++[y.c] }:=by unfold layT;rw [if_neg k10,if_neg k11]
   rw [he]
   clear he k10 k11
   gi_wp2
   try rw [hN]
   refine zW (fun w'=>w'.cell? ⟨N,3,none⟩=some (.int .i64 y.c.kind)/\w'.cell? ⟨N,4,none⟩=some (.int .i64 y.c.op)/\w'.cell? ⟨N,5,none⟩=some (.slice at1 y.c.terms.length ct1)/\w'.cell? ⟨N,6,none⟩=some (.int .i64 y.c.k)/\w'.cell? ⟨N,7,none⟩=some (.int .i64 y.c.v)/\w'.cell? ⟨N,8,none⟩=some (.int .i64 y.c.x)/\w'.cell? ⟨N,9,none⟩=some (.int .i64 y.c.y)/\w'.cell? ⟨N,10,none⟩=some (.slice ax1 y.c.xs.length cx1)/\w'.cell? ⟨N,11,none⟩=some (.slice ab1 y.c.table.length cb1)/\w'.cell? ⟨N,12,none⟩=some (.slice ar1 y.c.rows.length cr1)) (fun w'=>w'.cell? ⟨P,1,none⟩=some (.slice ac m.cons.length cc)) [11] hm ⟨⟨by (show World.cell? _ _=_);rw [yd (show W1.drew.heap[N]?=_ from hN1) 3];rfl,by (show World.cell? _ _=_);rw [yd (show W1.drew.heap[N]?=_ from hN1) 4];rfl,by (show World.cell? _ _=_);rw [yd (show W1.drew.heap[N]?=_ from hN1) 5];rfl,by (show World.cell? _ _=_);rw [yd (show W1.drew.heap[N]?=_ from hN1) 6];rfl,by (show World.cell? _ _=_);rw [yd (show W1.drew.heap[N]?=_ from hN1) 7];rfl,by (show World.cell? _ _=_);rw [yd (show W1.drew.heap[N]?=_ from hN1) 8];rfl,by (show World.cell? _ _=_);rw [yd (show W1.drew.heap[N]?=_ from hN1) 9];rfl,by (show World.cell? _ _=_);rw [yd (show W1.drew.heap[N]?=_ from hN1) 10];rfl,by (show World.cell? _ _=_);rw [yd (show W1.drew.heap[N]?=_ from hN1) 11];rfl,by (show World.cell? _ _=_);rw [yd (show W1.drew.heap[N]?=_ from hN1) 12];rfl⟩,by (show World.cell? _ _=_);rw [yd (show W1.drew.heap[P]?=_ from hP1) 1];rfl⟩ (fun hHeld=>?_)
   obtain ⟨W2,hW2⟩:∃ W2,W1.drew=W2:=⟨_,rfl⟩
   rw [hW2] at hHeld ⊢
   have hN2:W2.heap[N]?=some (.cells (sayC y.v.name y.v.lo y.v.hi y.c.kind y.c.op (.slice at1 y.c.terms.length ct1) y.c.k y.c.v y.c.x y.c.y (.slice ax1 y.c.xs.length cx1) (.slice ab1 y.c.table.length cb1) (.slice ar1 y.c.rows.length cr1)) 74):=hW2▸hN1
   have hP2:W2.heap[P]?=some (.cells #[.slice av m.vars.length cv,.slice ac m.cons.length cc,.bool m.has,vg] 26 (0,0)):=hW2▸hP1
   have od:Ofw (fun _=>False) W1 W2:=hW2▸Ofw.of_below (Below.refl _ _).drew
   have HM2:Hid (MoIs B P m (.slice av m.vars.length cv) (.slice ac m.cons.length cc) vg W2):=HM1.out.off od (fun _ f=>f.elim)
   have HY2:Hid (SyV B y (.slice at1 y.c.terms.length ct1) (.slice ax1 y.c.xs.length cx1) (.slice ab1 y.c.table.length cb1) (.slice ar1 y.c.rows.length cr1) W2):=HY1.out.off od (fun _ f=>f.elim)
   have HO2:Hid (Ofw (fun _=>False) w W2):=HO1.out.trans od
   have hs2:Hid (W2.heap.size=N+1):=by rw [<-hW2];exact hs1
   clear hW2 od HM1 HY1 HO1
   obtain ⟨xs0,hown⟩:∃ xs,W2.ownsRow B 61 10 (.slice ac m.cons.length cc) m.cons.length xs:=(by obtain ⟨L,_,h,_⟩:=HM2.out.k;exact ⟨_,h⟩)
   refine yw (i:=0) (oi:=⟨some 7,.move (.tmp 0),_,_,_,none⟩) (v:=?vc0) rfl (by kernel_rfl) (by kernel_rfl) (by kernel_rfl) (by kernel_rfl) (by kernel_rfl) yt ⟨Or.inl ⟨by rfl,?hc0⟩,fun _=>rfl,fun _ e=>by cases e⟩ (by assumption) ?rc0
   case hc0=>(intro w hSw;(try dsimp only at hSw);go_simp;try (with_reducible rfl))
   try simp only [Act.put,qa,qb,qc]
   refine yw (i:=1) (oi:=⟨some 8,.move (.tmp 0),_,_,_,none⟩) (v:=?vc1) rfl (by kernel_rfl) (by kernel_rfl) (by kernel_rfl) (by kernel_rfl) (by kernel_rfl) yt ⟨Or.inl ⟨by rfl,?hc1⟩,fun _=>rfl,fun _ e=>by cases e⟩ (by assumption) ?rc1
   case hc1=>(intro w hSw;(try dsimp only at hSw);go_simp;try (with_reducible rfl))
   try simp only [Act.put,qa,qb,qc]
   refine yw (i:=2) (oi:=⟨some 9,.nilCheck (.tmp 8),_,_,_,none⟩) (v:=?vc2) rfl (by kernel_rfl) (by kernel_rfl) (by kernel_rfl) (by kernel_rfl) (by kernel_rfl) yt ⟨Or.inl ⟨by rfl,?hc2⟩,fun _=>rfl,fun _ e=>by cases e⟩ (by assumption) ?rc2
   case hc2=>(intro w hSw;(try dsimp only at hSw);go_simp;try (with_reducible rfl))
   try simp only [Act.put,qa,qb,qc]
   refine yw (i:=3) (oi:=⟨some 10,.fieldAddr 26 (.tmp 9) 1,_,_,_,none⟩) (v:=?vc3) rfl (by kernel_rfl) (by kernel_rfl) (by kernel_rfl) (by kernel_rfl) (by kernel_rfl) yt ⟨Or.inl ⟨by rfl,?hc3⟩,fun _=>rfl,fun _ e=>by cases e⟩ (by assumption) ?rc3
   case hc3=>(intro w hSw;(try dsimp only at hSw);go_simp;try (with_reducible rfl))
   try simp only [Act.put,qa,qb,qc]
   refine xY (i:=4) (oi:=⟨some 11,.load 23 (.tmp 10),_,_,_,none⟩) (v:=?vc4) rfl (by kernel_rfl) (by kernel_rfl) (by kernel_rfl) (by kernel_rfl) (by kernel_rfl) (by kernel_rfl) yt ⟨Or.inl ⟨by rfl,?hc4⟩,fun _=>rfl,fun _ e=>by cases e⟩ (by assumption) ?rc4
   case hc4=>(intro w hSw;(try dsimp only at hSw);go_simp;try (with_reducible rfl))
   try simp only [Act.put,qa,qb,qc]
   refine yw (i:=5) (oi:=⟨some 12,.fieldAddr 74 (.tmp 3) 1,_,_,_,none⟩) (v:=?vc5) rfl (by kernel_rfl) (by kernel_rfl) (by kernel_rfl) (by kernel_rfl) (by kernel_rfl) yt ⟨Or.inl ⟨by rfl,?hc5⟩,fun _=>rfl,fun _ e=>by cases e⟩ (by assumption) ?rc5
   case hc5=>(intro w hSw;(try dsimp only at hSw);go_simp;try (with_reducible rfl))
   try simp only [Act.put,qa,qb,qc]
   refine yw (i:=6) (oi:=⟨some 13,.load 61 (.tmp 12),_,_,_,none⟩) (v:=?vc6) rfl (by kernel_rfl) (by kernel_rfl) (by kernel_rfl) (by kernel_rfl) (by kernel_rfl) yt ⟨Or.inl ⟨by rfl,?hc6⟩,fun _=>rfl,fun _ e=>by cases e⟩ (by assumption) ?rc6
   case hc6=>(intro w hSw;(try dsimp only at hSw);go_simp;try (with_reducible rfl))
   try simp only [Act.put,qa,qb,qc]
   refine yo (i:=7) (o:=⟨some 14,.buildSlice 23 1 #[(0,.tmp 13)],_,_,_,none⟩) (by kernel_rfl) rfl (fun K hK=>?_)
   obtain ⟨V1,hV1⟩:∃ V1,W2.alloc (.cells #[.int .i64 y.c.kind,.int .i64 y.c.op,.slice at1 y.c.terms.length ct1,.int .i64 y.c.k,.int .i64 y.c.v,.int .i64 y.c.x,.int .i64 y.c.y,.slice ax1 y.c.xs.length cx1,.slice ab1 y.c.table.length cb1,.slice ar1 y.c.rows.length cr1] 61)=V1:=⟨_,rfl⟩
   have bV:Below W2.heap.size W2 V1:=hV1▸(Below.refl _ _).alloc (Nat.le_refl _) _
   have hNV:=(bV.block _ (Array.getElem?_eq_some_iff.1 hN2).1).trans hN2
   have hPV:=(bV.block _ (Array.getElem?_eq_some_iff.1 hP2).1).trans hP2
   go_simp
   try rw [hV1]
   refine hK.out _ _ ⟨⟨by (show World.cell? _ _=_);rw [yd hNV 3];rfl,by (show World.cell? _ _=_);rw [yd hNV 4];rfl,by (show World.cell? _ _=_);rw [yd hNV 5];rfl,by (show World.cell? _ _=_);rw [yd hNV 6];rfl,by (show World.cell? _ _=_);rw [yd hNV 7];rfl,by (show World.cell? _ _=_);rw [yd hNV 8];rfl,by (show World.cell? _ _=_);rw [yd hNV 9];rfl,by (show World.cell? _ _=_);rw [yd hNV 10];rfl,by (show World.cell? _ _=_);rw [yd hNV 11];rfl,by (show World.cell? _ _=_);rw [yd hNV 12];rfl⟩,fun _=>by (show World.cell? _ _=_);rw [yd hPV 1];rfl⟩ ?_
   clear hK K
   try simp only [Act.put,qa,qb,qc]
   refine yo (i:=8) (o:=⟨some 15,.call { callee:=.builtin .append,args:=#[.tmp 11,.tmp 14],argTypes:=#[23,23] },_,_,_,none⟩) (by kernel_rfl) rfl (fun K hK=>?_)
   refine xZ W2 V1 (.tmp 11) (.tmp 14) 23 61 (.agg #[.int .i64 0,.int .i64 0,.slice none 0 0,.int .i64 0,.int .i64 0,.int .i64 0,.int .i64 0,.slice none 0 0,.slice none 0 0,.slice none 0 0]) 10 144 rfl Tryz.underlying23 (by kernel_rfl) rfl (by decide) B (.slice ac m.cons.length cc) m.cons.length _ #[.int .i64 y.c.kind,.int .i64 y.c.op,.slice at1 y.c.terms.length ct1,.int .i64 y.c.k,.int .i64 y.c.v,.int .i64 y.c.x,.int .i64 y.c.y,.slice ax1 y.c.xs.length cx1,.slice ab1 y.c.table.length cb1,.slice ar1 y.c.rows.length cr1] (by rfl) (by rfl) hV1 hown rfl (by intro u hu;simp at hu;rcases hu with rfl | rfl | rfl | rfl | rfl | rfl | rfl | rfl | rfl | rfl <;> rfl) (by unfold maxLen;omega) (by omega) (by have:=hs2.out;omega) (by rfl) ?_
   intro v5 w5 g1 g2 g3
   obtain ⟨ad5,cp5,hv5⟩:=yr g1
   subst hv5
   have hN5:=(g2.block _ (Array.getElem?_eq_some_iff.1 hN2).1 (fun e=>by obtain ⟨_,cur,hc⟩:=yn hown e;exact absurd (zb hN2 hc) (by decide))).trans hN2
   have hP5:=(g2.block _ (Array.getElem?_eq_some_iff.1 hP2).1 (fun e=>by obtain ⟨_,cur,hc⟩:=yn hown e;exact absurd (zb hP2 hc) (by decide))).trans hP2
   have zP5:=yu hP5 1
   have cP5:=yd hP5 1
   have hH5:(w5.cell? ⟨N,3,none⟩=some (.int .i64 y.c.kind)/\w5.cell? ⟨N,4,none⟩=some (.int .i64 y.c.op)/\w5.cell? ⟨N,5,none⟩=some (.slice at1 y.c.terms.length ct1)/\w5.cell? ⟨N,6,none⟩=some (.int .i64 y.c.k)/\w5.cell? ⟨N,7,none⟩=some (.int .i64 y.c.v)/\w5.cell? ⟨N,8,none⟩=some (.int .i64 y.c.x)/\w5.cell? ⟨N,9,none⟩=some (.int .i64 y.c.y)/\w5.cell? ⟨N,10,none⟩=some (.slice ax1 y.c.xs.length cx1)/\w5.cell? ⟨N,11,none⟩=some (.slice ab1 y.c.table.length cb1)/\w5.cell? ⟨N,12,none⟩=some (.slice ar1 y.c.rows.length cr1))/\w5.cell? ⟨P,1,none⟩=some (.slice ac m.cons.length cc):=⟨⟨by (show World.cell? _ _=_);rw [yd hN5 3];rfl,by (show World.cell? _ _=_);rw [yd hN5 4];rfl,by (show World.cell? _ _=_);rw [yd hN5 5];rfl,by (show World.cell? _ _=_);rw [yd hN5 6];rfl,by (show World.cell? _ _=_);rw [yd hN5 7];rfl,by (show World.cell? _ _=_);rw [yd hN5 8];rfl,by (show World.cell? _ _=_);rw [yd hN5 9];rfl,by (show World.cell? _ _=_);rw [yd hN5 10];rfl,by (show World.cell? _ _=_);rw [yd hN5 11];rfl,by (show World.cell? _ _=_);rw [yd hN5 12];rfl⟩,by (show World.cell? _ _=_);rw [yd hP5 1];rfl⟩
   refine hK.out _ _ ⟨hH5.1,fun _=>hH5.2⟩ ?_
   clear hK K
   try simp only [Act.put,qa,qb,qc]
   refine yw (i:=9) (oi:=⟨some 16,.nilCheck (.tmp 7),_,_,_,none⟩) (v:=?vc9) rfl (by kernel_rfl) (by kernel_rfl) (by kernel_rfl) (by kernel_rfl) (by kernel_rfl) yt ⟨Or.inl ⟨by rfl,?hc9⟩,fun _=>rfl,fun _ e=>by cases e⟩ (by assumption) ?rc9
   case hc9=>(intro w hSw;(try dsimp only at hSw);go_simp;try (with_reducible rfl))
   try simp only [Act.put,qa,qb,qc]
   refine yw (i:=10) (oi:=⟨some 17,.fieldAddr 26 (.tmp 16) 1,_,_,_,none⟩) (v:=?vc10) rfl (by kernel_rfl) (by kernel_rfl) (by kernel_rfl) (by kernel_rfl) (by kernel_rfl) yt ⟨Or.inl ⟨by rfl,?hc10⟩,fun _=>rfl,fun _ e=>by cases e⟩ (by assumption) ?rc10
   case hc10=>(intro w hSw;(try dsimp only at hSw);go_simp;try (with_reducible rfl))
   try simp only [Act.put,qa,qb,qc]
   refine Y0 (i:=11) (o:=⟨none,.store 23 (.tmp 17) (.tmp 15),_,_,_,none⟩) (by kernel_rfl) rfl (by kernel_rfl) (fun K hK=>?_)
   go_simp
   have hN6:(w5.setCell ⟨P,1,none⟩ (.slice ad5 (m.cons.length+1) cp5)).heap[N]?=some (.cells (sayC y.v.name y.v.lo y.v.hi y.c.kind y.c.op (.slice at1 y.c.terms.length ct1) y.c.k y.c.v y.c.x y.c.y (.slice ax1 y.c.xs.length cx1) (.slice ab1 y.c.table.length cb1) (.slice ar1 y.c.rows.length cr1)) 74):=(Below.heap_setCell _ ⟨P,1,none⟩ _ _ (by simp only;omega)).trans hN5
   refine hK.out _ _ ⟨by (show World.cell? _ _=_);rw [yd hN6 3];rfl,by (show World.cell? _ _=_);rw [yd hN6 4];rfl,by (show World.cell? _ _=_);rw [yd hN6 5];rfl,by (show World.cell? _ _=_);rw [yd hN6 6];rfl,by (show World.cell? _ _=_);rw [yd hN6 7];rfl,by (show World.cell? _ _=_);rw [yd hN6 8];rfl,by (show World.cell? _ _=_);rw [yd hN6 9];rfl,by (show World.cell? _ _=_);rw [yd hN6 10];rfl,by (show World.cell? _ _=_);rw [yd hN6 11];rfl,by (show World.cell? _ _=_);rw [yd hN6 12];rfl⟩ ?_
   clear hK K
   try simp only [Act.put,qa,qb,qc]
   refine yZ (by kernel_rfl) ⟨rfl,?_⟩ _
   gi_wp2
   refine ⟨_,results_none rfl _ _ _,rfl,?_⟩
   obtain ⟨q1,q2⟩:=HM2.out.more_c ⟨y.c,_,_,_,_⟩ ⟨HY2.out.t,HY2.out.x,HY2.out.b,HY2.out.r⟩ (fun xs hxs=>by
    have e2:xs0=xs:=y3Z hown hxs
    rw [<-e2];exact g1) (g2.less fun k hk=>hk)
   exact ⟨⟨_,_,_,q1⟩,(HO2.out.less fun k hk=>hk.elim).trans (q2.less fun k hk=>by
    rcases hk with hk | hk
    ·exact .inl hk
    ·exact .inr (.inr hk))⟩
end Go.Proofs.YthohnmplbjhjaaaGreatDoor

namespace Go.Proofs.YthohnmplbjhjaaaGreatDoor
open Go Go.RowKit
theorem X8 {s:St} {p:Prop} [Decidable p] (e:Int) (h:s.2≠0):(if p then yh e s else s)=s:=by split;exact xU h;rfl
theorem YU {s:St} {p:Prop} [Decidable p] (e:Int) (h:s.2≠0):(if p then s else yh e s)=s:=by split;rfl;exact xU h
theorem QE {V:List Md.Vr} {w:List UInt8} {s:St} (h:s.2≠0):(yF V w s).2=s:=by
 unfold yF
 simp only [YU 54 h]
 exact X8 56 h
theorem Yd {V:List Md.Vr} {s:St} (h:s.2≠0):(yA V s).2=s:=by unfold yA;rw [xM h];exact QE h
theorem y3A {V:List Md.Vr} {s:St} (h:s.2≠0):(newT V s).2=s:=by
 unfold newT
 rw [xM h]
 simp only [YU 54 h]
 exact X8 55 h
theorem QF {s:St} (h:s.2≠0):(rdOp s).2=s:=by
 unfold rdOp
 rw [xM h]
 simp only
 split
 ·exact xU h
 ·rfl
theorem y3B {s:St} (h:s.2≠0):(rdLo s).2=s:=by
 unfold rdLo
 rw [xM h]
 simp only [Zj h]
 exact YU 42 h
theorem y3C {s:St} (lo:Int) (h:s.2≠0):(rdHi lo s).2=s:=by
 unfold rdHi
 rw [xM h]
 simp only [Zj h]
 exact YU 42 h
theorem y3D {s:St} (h:s.2≠0):(zV s).2=s:=by unfold zV;simp only [y3B h];exact y3C _ h
theorem y3E {V:List Md.Vr} {x:List UInt8} {s:St} (h:s.2≠0):(yQ V x s).2=s:=by
 unfold yQ cfT
 simp only [Zj h,X8 45 h]
 exact Yd h
theorem y3F {α:Type} {rd:List UInt8->St->α × St} (k:Nat) (all:List α) {s:St} (h:s.2≠0):(yL rd k all s).2=s:=by cases k <;> (unfold yL;rw [xr h])
theorem xV {α:Type} {rd:List UInt8->St->α × St} (hr:∀ x s,s.2≠0->(rd x s).2=s) {s:St} (h:s.2≠0):(yq rd s).2=s:=by
 unfold yq
 rw [xM h,hr _ _ h]
 exact y3F _ _ h
theorem QG {s:St} (h:s.2≠0):endT s=s:=by unfold endT;rw [xr h]
theorem y3G {x y:List UInt8} {s:St} (h:s.2≠0):zt x y s=s:=by unfold zt;exact YU 51 h
theorem y3H {V:List Md.Vr} {s:St} (h:s.2≠0):(zE V s).2=s:=by
 unfold zE
 rw [Yd h]
 unfold yS
 rw [xr h]
 exact xU h
theorem y3I {n:Nat} {s:St} (h:s.2≠0):(zX n s).2=s:=by
 unfold zX
 rw [xM h,X9 h]
 unfold zd
 rw [xr h]
theorem y3J {V:List Md.Vr} {k:Nat} {s:St} (h:s.2≠0):(zy V k s).2=s:=by
 have hk:=fun (x:List UInt8) (s:St) (h:s.2≠0)=>QE (V:=V) (w:=x) h
 have ht:=fun (x:List UInt8) (s:St) (h:s.2≠0)=>y3E (V:=V) (x:=x) h
 have hv:=fun (x:List UInt8) (s:St) (h:s.2≠0)=>Xa (x:=x) h
 unfold zy
 split
 ·unfold fLin;simp only [QF h,YV h];exact xV ht h
 split
 ·unfold fNe;simp only [Yd h,YV h];exact QG h
 split
 ·unfold fAll;exact xV hk h
 split
 ·unfold fEl;simp only [Yd h];exact xV hv h
 split
 ·unfold fMax;simp only [Yd h];exact xV hk h
 split
 ·unfold fMax;simp only [Yd h];exact xV hk h
 split
 ·unfold xt;simp only [Yd h,xM h,y3G h,YV h];exact xV ht h
 split
 ·unfold fTable;simp only [y3H h];exact y3I h
 split
 ·unfold Ye;simp only [QF h,YV h];exact xV hk h
 split
 ·unfold fVar;simp only [y3A h,y3D h];exact QG h
 ·unfold Yf;exact xV ht h
theorem y3K {V:List Md.Vr} {k:Nat} {s:St} (h1:1<=k) (h2:k<=11):(zy V k s).1.c.kind=(k:Int):=by
 rcases (by omega:k=1∨k=2∨k=3∨k=4∨k=5∨k=6∨k=7∨k=8∨k=9∨k=10∨k=11) with rfl | rfl | rfl | rfl | rfl | rfl | rfl | rfl | rfl | rfl | rfl <;> rfl
theorem y3L (w:List UInt8):zM w<=11:=by
 unfold zM
 repeat (split;· omega)
 omega
structure Good (m:Md.Mo):Prop where
 v:m.vars.length<=32
 c:m.cons.length<=64
 n:∀ x∈m.vars,x.name.size<=70000
theorem y3M (s:St):(ye s).1.length<=s.1.length:=(zY (Nat.le_refl _)).1
theorem y3N {V:List Md.Vr} {s:St} (hs:s.1.length<=70000):(fVar V s).1.v.name.size<=70000:=by
 show (yc (newT V s).1).size<=70000
 exact Nat.le_trans (by show (newT V s).1.length<=s.1.length;exact y3M s) hs
theorem y3O {m:Md.Mo} {w:List UInt8} {s:St} (hg:Good m) (hs:s.1.length<=70000) (h0:(sayT m w s).2.2=0):Good (layT m (sayT m w s).1):=by
 unfold sayT at h0 ⊢
 by_cases hk:zM w=0
 ·rw [if_pos hk] at h0
  unfold yh at h0
  split at h0
  ·exact absurd (show (51:Int)=0 from h0) (by decide)
  ·rename_i h;exact absurd h0 h
 ·rw [if_neg hk] at h0 ⊢
  obtain ⟨k,hkk⟩:∃ k,zM w=k:=⟨_,rfl⟩
  have hle:=y3L w
  rw [hkk] at h0 hk hle ⊢
  have hf:(yh (yY k m) s).2=0:=by
   by_cases h:(yh (yY k m) s).2=0
   ·exact h
   ·rw [y3J h] at h0;exact h0
  have hz:yY k m=0:=by
   unfold yh at hf
   split at hf
   ·exact hf
   ·rename_i h;exact absurd hf h
  have hkd:=y3K (V:=m.vars) (s:=yh (yY k m) s) (by omega:1<=k) hle
  unfold layT
  rw [hkd]
  by_cases k10:k=10
  ·subst k10
   rw [if_pos (by decide)]
   have hv:m.vars.length≠32:=fun e=>by unfold yY at hz;rw [if_pos ⟨rfl,e⟩] at hz;exact absurd hz (by decide)
   refine ⟨by have:=hg.v;simp;omega,hg.c,fun x hx=>?_⟩
   rcases List.mem_append.1 hx with hx | hx
   ·exact hg.n x hx
   ·rw [List.mem_singleton.1 hx]
    exact y3N (by rw [yU];exact hs)
  ·rw [if_neg (by omega)]
   by_cases k11:k=11
   ·rw [if_pos (by omega)]
    exact ⟨hg.v,hg.c,hg.n⟩
   ·rw [if_neg (by omega)]
    have hc:m.cons.length≠64:=fun e=>by
     unfold yY at hz
     rw [if_neg (by omega),if_neg (by omega),if_pos ⟨by omega,e⟩] at hz
     exact absurd hz (by decide)
    exact ⟨hg.v,by have:=hg.c;simp;omega,hg.n⟩
theorem y3P {m:Md.Mo} {l:List UInt8} (hg:Good m) (hl:l.length<=70000):Good (yR m l).1:=by
 unfold yR
 split
 ·exact hg
 ·rename_i p hp
  split
  ·exact hg
  ·split
   ·rename_i h0
    have h1:=(zh hp).1
    have h2:(l,(0:Int)).1=l:=rfl
    rw [h2] at h1
    exact y3O hg (by omega) h0
   ·exact hg
end Go.Proofs.YthohnmplbjhjaaaGreatDoor

namespace Go.Proofs.YthohnmplbjhjaaaGreatDoor
open Go Go.RowKit
theorem YD {w:World} {B:Nat} {e:TypeId} {size:Nat} {v:Value} {n:Nat} {xs:List Value} (h:w.ownsRow B e size v n xs) :
  (v=.slice none 0 0/\n=0)∨∃ g cap,v=.slice (some ⟨g,0,none⟩) n cap/\B<=g/\g<w.heap.size/\n<=cap/\∀ j u,xs[j]?=some u->w.cell? ⟨g,j,none⟩=some u:=by
 have hl:=h.1
 rcases h.2 with h1 | ⟨g,cap,cur,hv,hB,hc,hn,_,_,ht⟩
 ·exact .inl h1
 ·refine .inr ⟨g,cap,hv,hB,(Array.getElem?_eq_some_iff.1 hc).1,hn,fun j u hj=>?_⟩
  have hjl:j<n * size:=by rw [<-hl];exact (List.getElem?_eq_some_iff.1 hj).1
  rw [<-ht,List.getElem?_take,if_pos hjl] at hj
  have hj3:cur[j]?=some u:=by simpa using hj
  simp [World.cell?,hc,hj3]
theorem Y4 {α:Type} (f:α->List Value) (n:Nat) (hf:∀ a,(f a).length=n):∀ (l:List α) (j:Nat) (hj:j<l.length) (i:Nat),i<n->(l.flatMap f)[j * n+i]?=(f l[j])[i]?
  | [],j,hj,_,_=>by simp at hj
  | a :: l, 0, _, i, hi => by
    simp only [List.flatMap_cons,List.getElem_cons_zero,Nat.zero_mul,Nat.zero_add]
    exact List.getElem?_append_left (by rw [hf];exact hi)
  | a :: l, j + 1, hj, i, hi => by
    simp only [List.flatMap_cons,List.getElem_cons_succ]
    have h:=Y4 f n hf l j (by simpa using hj) i hi
    rw [List.getElem?_append_right (by rw [hf,Nat.add_mul];omega),<-h,hf]
    congr 1
    rw [Nat.add_mul]
    omega
theorem YY {α:Type} {w:World} {B:Nat} {e:TypeId} {size:Nat} {v:Value} {l:List α} {xs:List Value} (h:w.ownsRow B e size v l.length xs):l.length<=maxLen:=by
 rcases h.2 with ⟨_,h0⟩ | ⟨g,cap,cur,_,_,_,h1,h2,_⟩
 ·omega
 ·omega
theorem Xi {w:World} {B:Nat} {e:TypeId} {v:Value} {l:List Int} (h:w.ownsRow B e 1 v l.length (encL encI l)):IntsAt w v l:=by
 have hm:=YY h
 rcases YD h with ⟨rfl,hn⟩ | ⟨g,cap,rfl,_,hg,_,hc⟩
 ·exact ⟨none,0,by rw [hn],hm,fun h0=>by omega⟩
 ·exact ⟨_,cap,rfl,hm,fun _=>⟨g,0,rfl,hg,fun j hj=>hc (0+j) _ (by have:=Y4 encI 1 (fun _=>rfl) l j hj 0 (by omega);rw [Nat.mul_one,Nat.add_zero] at this;rw [Nat.zero_add];exact this)⟩⟩
theorem QS {w:World} {B:Nat} {e:TypeId} {v:Value} {l:List (Int × Int)} (h:w.ownsRow B e 2 v l.length (encL encT l)):TermsAt w v l:=by
 have hm:=YY h
 rcases YD h with ⟨rfl,hn⟩ | ⟨g,cap,rfl,_,hg,_,hc⟩
 ·exact ⟨none,0,by rw [hn],hm,fun h0=>by omega⟩
 ·exact ⟨_,cap,rfl,hm,fun _=>⟨g,0,rfl,hg,fun j hj=>by
   rw [Nat.zero_add]
   exact ⟨hc _ _ (Y4 encT 2 (fun _=>rfl) l j hj 0 (by omega)),hc _ _ (Y4 encT 2 (fun _=>rfl) l j hj 1 (by omega))⟩⟩⟩
theorem y4d {w:World} {B:Nat} {e:TypeId} {v:Value} {l:List Md.Vr} (h:w.ownsRow B e 3 v l.length (encL encV l)) (hn:∀ x∈l,x.name.size<=maxLen):VarsAt w v l:=by
 have hm:=YY h
 rcases YD h with ⟨rfl,h0⟩ | ⟨g,cap,rfl,_,hg,_,hc⟩
 ·exact ⟨none,0,by rw [h0],hm,hn,fun h1=>by omega⟩
 ·exact ⟨_,cap,rfl,hm,hn,fun _=>⟨g,0,rfl,hg,fun j hj=>by
   rw [Nat.zero_add]
   exact ⟨hc _ _ (Y4 encV 3 (fun _=>rfl) l j hj 0 (by omega)),hc _ _ (Y4 encV 3 (fun _=>rfl) l j hj 1 (by omega)),hc _ _ (Y4 encV 3 (fun _=>rfl) l j hj 2 (by omega))⟩⟩⟩
theorem QT {w:World} {B:Nat} {e:TypeId} {size:Nat} {v:Value} {n:Nat} {xs:List Value} (h:w.ownsRow B e size v n xs):∀ a k cp,v=.slice a k cp->k<=cp:=by
 intro a k cp hv
 rcases YD h with ⟨rfl,_⟩ | ⟨g,cap,rfl,_,_,hm,_⟩
 ·injection hv with _ e2 e3;omega
 ·injection hv with _ e2 e3;omega
theorem y4e {w:World} {B D:Nat} {e:TypeId} {v:Value} {l:List (List Int)} {vs:List Value} (h:w.ownsRow B e 1 v l.length vs) (hr:RowsW w B D vs l):RowsAt w v l:=by
 have hm:=YY h
 have hl:=hr.1
 rcases YD h with ⟨rfl,hn⟩ | ⟨g,cap,rfl,_,hg,_,hc⟩
 ·exact ⟨none,0,by rw [hn],hm,fun h0=>by omega⟩
 ·refine ⟨_,cap,rfl,hm,fun _=>⟨g,0,rfl,hg,fun j hj=>?_⟩⟩
  have hj2:j<vs.length:=by omega
  exact ⟨vs[j],hc (0+j) _ (by rw [Nat.zero_add];exact List.getElem?_eq_getElem hj2),Xi (hr.2 j _ _ (List.getElem?_eq_getElem hj2) (List.getElem?_eq_getElem hj)).1⟩
theorem y4f {w:World} {B:Nat} {c:Md.Cn} {vt vx vb vr:Value} (h:SyV B ⟨zv,c⟩ vt vx vb vr w):CnAt w c vt vx vb vr:=by
 obtain ⟨vs,D,hr,hrs⟩:=h.r
 exact ⟨QS h.t,Xi h.x,QT h.x,Xi h.b,y4e hr hrs⟩
theorem y4g {w:World} {B:Nat} {v:Value} {L:List CnL} {l:List Md.Cn} (hl:l=L.map (·.c)) (h:w.ownsRow B 61 10 v l.length (L.flatMap CnL.cells)) (hs:∀ d∈L,SyV B ⟨zv,d.c⟩ d.t d.x d.b d.r w):ConsAt w v l:=by
 have hm:=YY h
 subst hl
 rcases YD h with ⟨rfl,hn⟩ | ⟨g,cap,rfl,_,hg,_,hc⟩
 ·exact ⟨none,0,by rw [hn],hm,fun h0=>by omega⟩
 ·refine ⟨_,cap,rfl,hm,fun _=>⟨g,0,rfl,hg,fun j hj=>?_⟩⟩
  have hj2:j<L.length:=by simpa using hj
  have he:(L.map (·.c))[j]=L[j].c:=by simp
  have hx:=fun i hi u (hu:(L[j].cells)[i]?=some u)=>hc (j * 10+i) u ((Y4 CnL.cells 10 (fun _=>rfl) L j hj2 i hi).trans hu)
  rw [he]
  refine ⟨L[j].t,L[j].x,L[j].b,L[j].r,y4f (hs _ (List.getElem_mem hj2)),?_⟩
  rw [Nat.zero_add]
  exact ⟨hx 0 (by omega) _ rfl,hx 1 (by omega) _ rfl,hx 2 (by omega) _ rfl,hx 3 (by omega) _ rfl,hx 4 (by omega) _ rfl,hx 5 (by omega) _ rfl,hx 6 (by omega) _ rfl,hx 7 (by omega) _ rfl,hx 8 (by omega) _ rfl,hx 9 (by omega) _ rfl⟩
theorem MoIs.at {B P:Nat} {m:Md.Mo} {vv vc vg:Value} {w:World} (h:MoIs B P m vv vc vg w) (hg:Good m):MoAt w m vv vc vg:=by
 obtain ⟨L,hL,hk,hs⟩:=h.k
 exact ⟨y4d h.v (fun x hx=>Nat.le_trans (hg.n x hx) (by decide)),QT h.v,y4g hL hk hs,QS h.g⟩
theorem y2w {w0 w:World} (h:Way w0 w):Way w w:=by
 obtain ⟨mx,hmx⟩:=h.mx
 have hb:=h.big
 refine ⟨Below.refl _ _,?_,Nat.le_trans h.big h.low.size,⟨mx,(h.low.cell (p:=⟨1,0,none⟩) (by simp only;omega)).trans hmx⟩,h.opw1,h.opw2,h.opw3⟩
 have ht:=h.tab
 have hg : Tryz.prog.globalNamed "internal/strconv.uint64pow10" = some 4 := by kernel_rfl
 unfold Lib.TabIs World.var? at ht ⊢
 rw [hg] at ht ⊢
 simp only [Option.bind_some] at ht ⊢
 rw [h.low.block 4 (by omega)]
 exact ht
theorem QU {w w':World} {B:Nat} (h:Way w w) (o:Ofw (fun k=>B<=k) w w') (hB:5<=B):Way w' w':=by
 obtain ⟨mx,hmx⟩:=h.mx
 have hb:=h.big
 have hk:∀ k,k<5->w'.heap[k]?=w.heap[k]?:=fun k hk=>o.block k (by omega) (by omega)
 have hc:∀ k i u,k<5->w.cell? ⟨k,i,none⟩=some u->w'.cell? ⟨k,i,none⟩=some u:=fun k i u h1 h2=>(World.cell?_of_block (a:=⟨k,i,none⟩) (hk k h1)).trans h2
 refine ⟨Below.refl _ _,?_,Nat.le_trans hb o.size,⟨mx,hc 1 0 _ (by omega) hmx⟩,hc 0 1 _ (by omega) h.opw.1,hc 0 2 _ (by omega) h.opw.2.1,hc 0 3 _ (by omega) h.opw.2.2⟩
 have ht:=h.tab
 have hg : Tryz.prog.globalNamed "internal/strconv.uint64pow10" = some 4 := by kernel_rfl
 unfold Lib.TabIs World.var? at ht ⊢
 rw [hg] at ht ⊢
 simp only [Option.bind_some] at ht ⊢
 rw [hk 4 (by omega)]
 exact ht
theorem y4h (x:List UInt8):Lib.hasPrefix x [35]=decide (x.headD 0=35):=by
  cases x with
  | nil=>rfl
  | cons c l =>
    by_cases h:c=35
    · subst h;simp [Lib.hasPrefix]
    · have h':¬ 35=c:=fun e=>h e.symm
      have h2:((35:UInt8)==c)=false:=by simp [h']
      simp [Lib.hasPrefix,List.isPrefixOf,h2,h]
end Go.Proofs.YthohnmplbjhjaaaGreatDoor
