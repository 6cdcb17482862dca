/-
  Put together: TzParse, TzLooseLaw, TzBackLaw, TzWr.
-/
import Derived.Test.YthohnmplbjhjaaaGreatDoorTfKnown
import Derived.Test.YthohnmplbjhjaaaGreatDoorJ36
import Derived.Test.YthohnmplbjhjaaaGreatDoorJ11
import Derived.Test.YthohnmplbjhjaaaGreatDoorJ39
import Derived.Test.YthohnmplbjhjaaaGreatDoorJ08
import Derived.Test.YthohnmplbjhjaaaGreatDoorJ26
import Derived.Test.YthohnmplbjhjaaaGreatDoorJ24
namespace Go.Proofs.YthohnmplbjhjaaaGreatDoor
open Go Go.RowKit Go.Shelf Go.Lib
theorem y0i {s:List UInt8} (hs:s.length<=70000):(((yJ s).2.1=0/\(yJ s).2.2=0)∨((yJ s).2.2≠0/\(yJ s).1=zm))/\0<=(yJ s).2.1/\(yJ s).2.1<=100000:=by
  have hn:=YZ s []
  by_cases hl:65536<s.length
  · have:yJ s=(zm,(1,50)):=by unfold yJ;rw [if_pos hl]
    rw [this]
    exact ⟨.inr ⟨(by decide:(50:Int)≠0),rfl⟩,by simp,by simp⟩
  · rw [K0 hl]
    obtain ⟨g,hg⟩:∃ g,goT (yx s []) 1 zm=g:=⟨_,rfl⟩
    rw [hg]
    obtain ⟨m,o⟩:=g
    cases o with
    | none =>
      unfold finT
      simp only
      split
      · exact ⟨.inr ⟨(by decide:(59:Int)≠0),rfl⟩,by simp,by simp;omega⟩
      · exact ⟨.inl ⟨rfl,rfl⟩,by simp,by simp⟩
    | some p =>
      obtain ⟨i,e⟩:=p
      obtain ⟨h1,h2,_,h4⟩:=Qp _ 1 zm m i e hg
      exact ⟨.inr ⟨h4,rfl⟩,by simp [finT],by simp [finT];omega⟩
def PoA (r:Md.Mo × (Int × Int)) (w:World) (e:Ending) (w':World):Prop:=
 ∃ a1 c1 a2 c2 a3 c3 it i0,e=.returned (.tuple #[.agg #[.slice a1 r.1.vars.length c1,.slice a2 r.1.cons.length c2,.bool r.1.has,.slice a3 r.1.goal.length c3],it])/\MoAt w' r.1 (.slice a1 r.1.vars.length c1) (.slice a2 r.1.cons.length c2) (.slice a3 r.1.goal.length c3)/\Below w.heap.size w w' /\
  ((r.2.2=0/\it=.nilIface)∨(r.2.2≠0/\∃ F,it=.iface 91 (.pointer (some ⟨F,0,none⟩)))) /\
  ∀ w2,Below w'.heap.size w' w2->Calls Tryz.prog 17 #[it] w2 fun e w3=>e=.returned (.tuple #[.agg #[.int .i64 i0,.int .i64 r.2.1,.int .i64 r.2.2],.bool true])/\Below w2.heap.size w2 w3
theorem y6p (w:World):MoAt w zm (.slice none 0 0) (.slice none 0 0) (.slice none 0 0):=by
 refine ⟨⟨none,0,rfl,by simp [zm],fun x hx=>by simp [zm] at hx,fun h=>absurd h (by simp [zm])⟩,fun a n cp e=>?_,⟨none,0,rfl,by simp [zm],fun h=>absurd h (by simp [zm])⟩,⟨none,0,rfl,by simp [zm],fun h=>absurd h (by simp [zm])⟩⟩
 injection e with _ e2 e3
 omega
theorem y6j (s:List UInt8) (w:World) (hw:Way w w) (hs:s.length<=70000):Calls Tryz.prog 13 #[.string (yc s)] w (PoA (yJ s) w):=by
 refine (X0 s w hw (by omega)).mono fun e w' hp=>?_
 obtain ⟨hb,hp⟩:=hp
 obtain ⟨hpp,_,_⟩:=y0i hs
 rcases hp with ⟨h0,_,vv,vc,vg,rfl,hM⟩ | ⟨h0,F,rfl,hF,_⟩
 ·obtain ⟨a1,c1,a2,c2,a3,c3,rfl,rfl,rfl⟩:=y2p hM
  have h1:(yJ s).2.1=0:=by rcases hpp with h | h;exact h.1;exact absurd h0 h.1
  refine ⟨a1,c1,a2,c2,a3,c3,.nilIface,0,rfl,hM,hb,.inl ⟨h0,rfl⟩,fun w2 _=>?_⟩
  rw [h0,h1]
  exact y3Y w2
 ·have h1:(yJ s).1=zm:=by rcases hpp with h | h;exact absurd h.2 h0;exact h.2
  rw [show (yJ s)=(zm,(yJ s).2) from Prod.ext h1 rfl]
  exact ⟨none,0,none,0,none,0,_,1,rfl,y6p w',hb,.inr ⟨h0,F,rfl⟩,fun w2 hb2=>Qo F _ _ w2 ((hb2.block F (Array.getElem?_eq_some_iff.1 hF).1).trans hF) h0⟩
end Go.Proofs.YthohnmplbjhjaaaGreatDoor

namespace Go.Proofs.YthohnmplbjhjaaaGreatDoor
open Go Go.RowKit Go.Shelf Go.Lib
theorem ZK {w w':World} {N:Nat} {c:Array Value} {t:TypeId} (h:w.heap[N]?=some (.cells c t (0,0))) (hb:Below w.heap.size w w'):w'.heap[N]?=some (.cells c t (0,0)):=(hb.block N (Array.getElem?_eq_some_iff.1 h).1).trans h
theorem zk (w:World) (o:Obj):Below w.heap.size w (w.alloc o):=(Below.refl _ _).alloc (Nat.le_refl _) o
end Go.Proofs.YthohnmplbjhjaaaGreatDoor

namespace Go.Proofs.YthohnmplbjhjaaaGreatDoor
open Go Go.RowKit Go.Shelf Go.Lib
theorem Yn {w w':World} (h:Below w.heap.size w w'):KnO w (.returned (.bool true)) w':=⟨rfl,h⟩
end Go.Proofs.YthohnmplbjhjaaaGreatDoor

namespace Go.Proofs.YthohnmplbjhjaaaGreatDoor
open Go Go.RowKit Go.Shelf Go.Lib
attribute [local go_sem] Oper.semAt_some
theorem Yo:Tryz.prog.underlying 78=some (.slice 9):=by kernel_rfl
theorem inf9:(Tryz.prog.info? 9).map (fun i=>(i.zero,i.size,i.bytes))=some (some (.string ⟨#[]⟩),1,16):=by kernel_rfl
def strs (L:List (List UInt8)):List Value:=L.map fun x=>Value.string (yc x)
theorem y0n (L:List (List UInt8)) (x:List UInt8):strs (L++[x])=strs L++[.string (yc x)]:=by simp [strs]
structure WrAt (B P:Nat) (vv vc:Value) (has:Bool) (vg:Value) (L:List (List UInt8)) (far:Int) (lv:Value) (w:World):Prop where
 box:w.heap[P]?=some (.cells #[vv,vc,.bool has,vg,lv,.int .i64 far] 97 (0,0))
 row:w.ownsRow B 9 1 lv L.length (strs L)
 low:B<=P
def Wk (B:Nat) (w w':World):Prop:=Ofw (fun k=>B<=k/\∃ c t,w.heap[k]?=some (.cells c t (0,0))/\(t=97∨t=9)) w w'
theorem Wk.refl (B:Nat) (w:World):Wk B w w:=Ofw.refl _ w
theorem Wk.ofw {B:Nat} {w w':World} (h:Wk B w w'):Ofw (fun k=>B<=k) w w':=Ofw.less h fun _ hk=>hk.1
theorem Wk.of_below {B:Nat} {w w':World} (h:Below w.heap.size w w'):Wk B w w':=Ofw.of_below h
theorem Wk.trans {B:Nat} {a b c:World} (h:Wk B a b) (k:Wk B b c):Wk B a c:=
 ⟨k.os.trans h.os,k.tape.trans h.tape,k.output.trans h.output,Nat.le_trans h.size k.size,fun i hi hs=>by
  have e:=h.block i hi hs
  refine (k.block i (Nat.lt_of_lt_of_le hi h.size) fun q=>hs ⟨q.1,?_⟩).trans e
  obtain ⟨c,t,hc,ht⟩:=q.2
  exact ⟨c,t,e▸hc,ht⟩⟩
theorem Wk.box {B N:Nat} {w w':World} (h:Wk B w w') {c:Array Value} {t:TypeId} (hb:w.heap[N]?=some (.cells c t (0,0))) (h1:t≠97) (h2:t≠9):w'.heap[N]?=some (.cells c t (0,0)):=
 (h.block N (Array.getElem?_eq_some_iff.1 hb).1 fun q=>by
  obtain ⟨_,c',t',hc,ht⟩:=q
  rw [zb hb hc] at ht
  exact ht.elim h1 h2).trans hb
def WrO (B P:Nat) (vv vc:Value) (has:Bool) (vg:Value) (L:List (List UInt8)) (far:Int) (w:World) (e:Ending) (w':World):Prop:=
 e=.returned (.tuple #[])/\(∃ lv,WrAt B P vv vc has vg L far lv w')/\Wk B w w'
theorem WrAt.keep {B P:Nat} {vv vc vg lv:Value} {has:Bool} {L:List (List UInt8)} {far:Int} {w w':World} (h:WrAt B P vv vc has vg L far lv w) (hb:Below w.heap.size w w'):WrAt B P vv vc has vg L far lv w':=
 ⟨(hb.block P (Array.getElem?_eq_some_iff.1 h.box).1).trans h.box,yC (S:=fun _=>False) h.row (fun _ _ f=>f) (Ofw.of_below hb),h.low⟩
theorem WrAt.not {B P:Nat} {vv vc vg lv:Value} {has:Bool} {L:List (List UInt8)} {far:Int} {w:World} (h:WrAt B P vv vc has vg L far lv w) {g:Nat} (hg:lv.ownBlock=some g):g≠P:=fun e=>by
 obtain ⟨_,cur,hc⟩:=yn h.row hg
 rw [e] at hc
 exact absurd (zb h.box hc) (by decide)
theorem WrAt.lt {B P:Nat} {vv vc vg lv:Value} {has:Bool} {L:List (List UInt8)} {far:Int} {w:World} (h:WrAt B P vv vc has vg L far lv w):P<w.heap.size:=(Array.getElem?_eq_some_iff.1 h.box).1
theorem WrAt.more {B P:Nat} {vv vc vg lv v3:Value} {has:Bool} {L:List (List UInt8)} {far:Int} {w w3:World} {x:List UInt8} (h:WrAt B P vv vc has vg L far lv w) (ho:w3.ownsRow B 9 1 v3 (L.length+1) (strs L++[.string (yc x)])) (hg:Ofw (fun k=>lv.ownBlock=some k) w w3) :
  WrAt B P vv vc has vg (L++[x]) far v3 (w3.setCell ⟨P,4,none⟩ v3)/\Wk B w (w3.setCell ⟨P,4,none⟩ v3)/\w3.heap[P]?=some (.cells #[vv,vc,.bool has,vg,lv,.int .i64 far] 97 (0,0)):=by
 have hb:w3.heap[P]?=some (.cells #[vv,vc,.bool has,vg,lv,.int .i64 far] 97 (0,0)):=(hg.block P h.lt (fun e=>h.not e rfl)).trans h.box
 refine ⟨⟨yD hb 4 v3,?_,h.low⟩,Wk.trans (b:=w3) (hg.less fun k hk=>by obtain ⟨h1,cur,h2⟩:=yn h.row hk;exact ⟨h1,cur,9,h2,.inr rfl⟩) (Ofw.set v3 ⟨h.low,_,97,hb,.inl rfl⟩),hb⟩
 rw [List.length_append,y0n]
 refine yC (S:=fun k=>k=P) ho (fun g hgg e=>?_) (Ofw.set v3 rfl)
 obtain ⟨_,cur,hc⟩:=yn ho hgg
 have e':g=P:=e
 rw [e'] at hc
 exact absurd (zb hb hc) (by decide)
set_option maxRecDepth 10000 in
set_option maxHeartbeats 1000000 in
theorem y6m {B P:Nat} {vv vc vg lv:Value} {has:Bool} {L:List (List UInt8)} {far:Int} {w:World} (h:WrAt B P vv vc has vg L far lv w) (hL:L.length<=1000000) (hB:B<=w.heap.size) (x:List UInt8):Calls Tryz.prog 37 #[.pointer (some ⟨P,0,none⟩),.string (yc x)] w (WrO B P vv vc has vg (L++[x]) far w):=by
 obtain ⟨a,cp,rfl⟩:=yr h.row
 have HW:Hid (WrAt B P vv vc has vg L far (.slice a L.length cp) w):=h
 obtain ⟨X,hX⟩:∃ X,yc x=X:=⟨_,rfl⟩
 have HX:Hid (yc x=X):=hX
 rw [hX]
 have c4:w.cell? ⟨P,4,none⟩=some (.slice a L.length cp):=yd h.box 4
 have hP:=h.lt
 clear h hX
 go_enter Tryz.func37,Tryz.ntmps37
 go_wp2_with (at_builtin;refine xe w (.string X) rfl _ _ 78 9 (.string ⟨#[]⟩) 16 rfl Yo inf9 rfl B _ _ _ (by rfl) HW.out.row rfl _ rfl (by rfl) (by unfold maxLen;omega) (by omega) hB ?_;intro v3 w3 ho3 hg3 hn3;obtain ⟨a3,cp3,hv3⟩:=yr ho3;subst hv3;(have H3:Hid (WrAt B P vv vc has vg (L++[x]) far (.slice a3 (L.length+1) cp3) (w3.setCell ⟨P,4,none⟩ (.slice a3 (L.length+1) cp3))/\Wk B w (w3.setCell ⟨P,4,none⟩ (.slice a3 (L.length+1) cp3))/\w3.heap[P]?=some (.cells #[vv,vc,.bool has,vg,.slice a L.length cp,.int .i64 far] 97 (0,0))):=HW.out.more (by rw [HX.out];exact ho3) (zo hg3));have c4':=yd H3.out.2.2 4;have f4:=yu H3.out.2.2 4;clear ho3 hg3 hn3 c4)
 go_end0
 exact ⟨rfl,⟨_,H3.out.1⟩,H3.out.2.1⟩
end Go.Proofs.YthohnmplbjhjaaaGreatDoor
