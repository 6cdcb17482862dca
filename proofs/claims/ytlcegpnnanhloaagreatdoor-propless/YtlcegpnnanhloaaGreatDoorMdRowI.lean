/-
  A row of ints of the call's own, written in place.
-/
import Derived.Test.YtlcegpnnanhloaaGreatDoorJ17
import Derived.Laws.Rows
namespace Go.Proofs.YtlcegpnnanhloaaGreatDoor
open Go.RowKit

def RowI (w : World) (g : Nat) (L : List Int) : Prop := ∃ cur : Array Value, w.heap[g]? = some (.cells cur 3 (0, 0)) ∧ ∀ j (h : j < L.length), cur[j]? = some (.int .i64 L[j])
theorem RowI.of_own {w : World} {B n c : Nat} {a : Option Addr} {L : List Int} (h : w.ownsRow B 3 1 (.slice a n c) n (L.map (.int .i64))) (hL : L.length = n) (h0 : 0 < n) : ∃ g, a = some ⟨g, 0, none⟩ ∧ B ≤ g ∧ g < w.heap.size ∧ n ≤ c ∧ RowI w g L := by
  rcases h.2 with ⟨_, hn⟩ | ⟨g, cap, cur, hv, hg, hc, hm, _, _, ht⟩
  · omega
  · injection hv with e1 _ e3
    subst e1 e3
    refine ⟨g, rfl, hg, (Array.getElem?_eq_some_iff.1 hc).1, hm, cur, hc, fun j hj => ?_⟩
    have hj2 : (cur.toList.take (n * 1))[j]? = some (.int .i64 L[j]) := by rw [ht]; simp [hj]
    rw [List.getElem?_take, if_pos (by omega)] at hj2
    simpa using hj2
theorem RowI.lt {w : World} {g : Nat} {L : List Int} (h : RowI w g L) : g < w.heap.size := by
  obtain ⟨cur, hc, _⟩ := h
  exact (Array.getElem?_eq_some_iff.1 hc).1
theorem RowI.below {w w' : World} {g : Nat} {L : List Int} (h : RowI w g L) (hb : Below w.heap.size w w') : RowI w' g L := by
  have hg := h.lt
  obtain ⟨cur, hc, hj⟩ := h
  exact ⟨cur, (hb.block g hg).trans hc, hj⟩
theorem RowI.cell {w : World} {g : Nat} {L : List Int} (h : RowI w g L) (x : Nat) (hx : x < L.length) : w.cell? ⟨g, x, none⟩ = some (.int .i64 L[x]) ∧ w.frozen? ⟨g, x, none⟩ = false := by
  obtain ⟨cur, hc, hj⟩ := h
  exact ⟨by simp [World.cell?, hc, hj x hx], by simp [World.frozen?, hc]⟩
theorem RowI.set {w : World} {g : Nat} {L : List Int} (h : RowI w g L) (x : Nat) (z : Int) : RowI (w.setCell ⟨g, x, none⟩ (.int .i64 z)) g (L.set x z) := by
  obtain ⟨cur, hc, hj⟩ := h
  refine ⟨cur.setIfInBounds x (.int .i64 z), heap_setCell_same w g x cur 3 _ hc, fun j hj' => ?_⟩
  have hjl : j < L.length := by simpa using hj'
  have h1 := hj j hjl
  rw [List.getElem_set]
  by_cases hx : x = j
  · subst hx
    have hs : x < cur.size := (Array.getElem?_eq_some_iff.1 h1).1
    simp [hs]
  · rw [if_neg hx, Array.getElem?_setIfInBounds_ne (by omega)]
    exact h1
theorem RowI.other {w : World} {g g' : Nat} {L : List Int} (h : RowI w g L) (hne : g ≠ g') (x : Nat) (v : Value) : RowI (w.setCell ⟨g', x, none⟩ v) g L := by
  obtain ⟨cur, hc, hj⟩ := h
  exact ⟨cur, (heap_setCell_other w ⟨g', x, none⟩ g v hne).trans hc, hj⟩
theorem RowI.ints {w : World} {g c : Nat} {L : List Int} (h : RowI w g L) (hm : L.length ≤ maxLen) : IntsAt w (.slice (some ⟨g, 0, none⟩) L.length c) L :=
  ⟨_, c, rfl, hm, fun _ => ⟨g, 0, rfl, h.lt, fun j hj => by rw [Nat.zero_add]; exact (h.cell j hj).1⟩⟩
end Go.Proofs.YtlcegpnnanhloaaGreatDoor
