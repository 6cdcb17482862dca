import Derived.Test.YtjnckfchgcmmpaaGreatDoorJ05
import Derived.Test.YtjnckfchgcmmpaaGreatDoorJ23
import Derived.Laws.Rows
namespace Go.Proofs.YtjnckfchgcmmpaaGreatDoor
open Go.RowKit
def RowI (w:World) (g:Nat) (L:List Int):Prop:=∃ cur:Array Value,w.heap[g]?=some (.cells cur 3 (0,0))/\∀ j (h:j<L.length),cur[j]?=some (.int .i64 L[j])
theorem RowI.lt {w:World} {g:Nat} {L:List Int} (h:RowI w g L):g<w.heap.size:=by
  obtain ⟨cur,hc,_⟩:=h;exact (hLt hc)
theorem RowI.below {w w':World} {g:Nat} {L:List Int} (h:RowI w g L) (hb:Below w.heap.size w w'):RowI w' g L:=by
  have hg:=h.lt;obtain ⟨cur,hc,hj⟩:=h;exact ⟨cur,(hb.block g hg).trans hc,hj⟩
theorem RowI.cell {w:World} {g:Nat} {L:List Int} (h:RowI w g L) (x:Nat) (hx:x<L.length):w.cell? ⟨g,x,none⟩=some (.int .i64 L[x])/\w.frozen? ⟨g,x,none⟩=false:=by
  obtain ⟨cur,hc,hj⟩:=h;exact ⟨by simp [World.cell?,hc,hj x hx],by simp [World.frozen?,hc]⟩
theorem RowI.set {w:World} {g:Nat} {L:List Int} (h:RowI w g L) (x:Nat) (z:Int):RowI (w.setCell ⟨g,x,none⟩ (.int .i64 z)) g (L.set x z):=by
  obtain ⟨cur,hc,hj⟩:=h;refine ⟨cur.setIfInBounds x (.int .i64 z),heap_setCell_same w g x cur 3 _ hc,fun j hj'=>?_⟩;have hjl:j<L.length:=by simpa using hj'
  have h1:=hj j hjl;rw [List.getElem_set]
  by_cases hx:x=j
  · subst hx
    have hs:x<cur.size:=(hLt h1);simp [hs]
  · rw [if_neg hx,Array.getElem?_setIfInBounds_ne (by omega)]
    exact h1
theorem RowI.ints {w:World} {g c:Nat} {L:List Int} (h:RowI w g L) (hm:L.length<=maxLen):IntsAt w (.slice (some ⟨g,0,none⟩) L.length c) L:=
  ⟨_,c,rfl,hm,fun _=>⟨g,0,rfl,h.lt,fun j hj=>by rw [Nat.zero_add];exact (h.cell j hj).1⟩⟩
end Go.Proofs.YtjnckfchgcmmpaaGreatDoor
