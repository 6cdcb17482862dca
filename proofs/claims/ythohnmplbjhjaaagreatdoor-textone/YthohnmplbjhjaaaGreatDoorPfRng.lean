import Derived.RangeFuncNested
import Derived.RangeFuncBound
import Derived.RangeFuncCalls
import Derived.RangeFuncLeaves
import Derived.Shelf.Abstract
import Derived.Shelf.RegionOpen
import Derived.OwnWalkIn
import Derived.TacticsInMore
import Derived.LoopNIn
import Derived.LoopIn
import Derived.Test.YthohnmplbjhjaaaGreatDoorJ14
namespace Go.Proofs.YthohnmplbjhjaaaGreatDoor
open Go Go.RowKit
structure Ofw (S:Nat->Prop) (w w':World):Prop where
 os:w'.os=w.os
 tape:w'.tape=w.tape
 output:w'.output=w.output
 size:w.heap.size<=w'.heap.size
 block:∀ k,k<w.heap.size->¬ S k->w'.heap[k]?=w.heap[k]?
theorem Ofw.refl (S:Nat->Prop) (w:World):Ofw S w w:=⟨rfl,rfl,rfl,Nat.le_refl _,fun _ _ _=>rfl⟩
theorem Ofw.trans {S:Nat->Prop} {a b c:World} (h:Ofw S a b) (k:Ofw S b c):Ofw S a c:=
 ⟨k.os.trans h.os,k.tape.trans h.tape,k.output.trans h.output,Nat.le_trans h.size k.size,fun i hi hs=>(k.block i (Nat.lt_of_lt_of_le hi h.size) hs).trans (h.block i hi hs)⟩
theorem Ofw.of_below {S:Nat->Prop} {w w':World} (h:Below w.heap.size w w'):Ofw S w w':=⟨h.os,h.tape,h.output,h.size,fun k hk _=>h.block k hk⟩
theorem Ofw.set {S:Nat->Prop} {w:World} {g i:Nat} (v:Value) (h:S g):Ofw S w (w.setCell ⟨g,i,none⟩ v):=
 ⟨rfl,rfl,rfl,by simp [World.setCell],fun k _ hs=>Below.heap_setCell _ ⟨g,i,none⟩ _ k (fun e=>hs (e▸h))⟩
theorem Ofw.less {S T:Nat->Prop} {w w':World} (h:Ofw S w w') (hs:∀ k,S k->T k):Ofw T w w':=⟨h.os,h.tape,h.output,h.size,fun k hk ht=>h.block k hk fun e=>ht (hs k e)⟩
theorem Ofw.below {S:Nat->Prop} {B:Nat} {w w':World} (h:Ofw S w w') (hS:∀ k,S k->B<=k) (hB:B<=w.heap.size):Below B w w':=⟨h.os,h.tape,h.output,h.size,fun k hk=>h.block k (Nat.lt_of_lt_of_le hk hB) fun e=>by have:=hS k e;omega⟩
theorem zf {S:Nat->Prop} (W:World) (k:Nat) (o:Obj) (hk:S k):Ofw S W (W.putObj k o):=⟨rfl,rfl,rfl,by simp,fun i _ hi=>World.putObj_heap_other (fun e=>hi (e▸hk))⟩
end Go.Proofs.YthohnmplbjhjaaaGreatDoor
