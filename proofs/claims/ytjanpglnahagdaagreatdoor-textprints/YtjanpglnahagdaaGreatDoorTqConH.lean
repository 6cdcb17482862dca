/-
  The document's line of a constraint.
-/
import Derived.Test.YtjanpglnahagdaaGreatDoorJ44
import Derived.Deep.CutBlock
import Derived.Deep.CutRange
namespace Go.Proofs.YtjanpglnahagdaaGreatDoor
open Go Go.RowKit
open Go.Lib (itoa)

theorem opw_kept {wx w3 : World} (hb : Below (wx.alloc (.cells #[.string ⟨#[]⟩, .string ⟨#[60, 61]⟩, .string ⟨#[61]⟩, .string ⟨#[62, 61]⟩] 9)).heap.size (wx.alloc (.cells #[.string ⟨#[]⟩, .string ⟨#[60, 61]⟩, .string ⟨#[61]⟩, .string ⟨#[62, 61]⟩] 9)) w3) :
    w3.cell? ⟨wx.heap.size, 1, none⟩ = some (.string ⟨#[60, 61]⟩) ∧ w3.cell? ⟨wx.heap.size, 2, none⟩ = some (.string ⟨#[61]⟩) ∧ w3.cell? ⟨wx.heap.size, 3, none⟩ = some (.string ⟨#[62, 61]⟩) := by
  have h := (hb.block wx.heap.size (by simp)).trans (heap_alloc_new wx _)
  refine ⟨?_, ?_, ?_⟩ <;> (rw [Lib.cell_of_heap h]; rfl)
theorem opw_kept' {wx w3 : World} (hb : Below (wx.alloc (.cells #[.string ⟨#[]⟩, .string ⟨#[60, 61]⟩, .string ⟨#[61]⟩, .string ⟨#[62, 61]⟩] 9)).drew.heap.size (wx.alloc (.cells #[.string ⟨#[]⟩, .string ⟨#[60, 61]⟩, .string ⟨#[61]⟩, .string ⟨#[62, 61]⟩] 9)).drew w3) :
    w3.cell? ⟨wx.heap.size, 1, none⟩ = some (.string ⟨#[60, 61]⟩) ∧ w3.cell? ⟨wx.heap.size, 2, none⟩ = some (.string ⟨#[61]⟩) ∧ w3.cell? ⟨wx.heap.size, 3, none⟩ = some (.string ⟨#[62, 61]⟩) := by
  have h : w3.heap[wx.heap.size]? = _ := (hb.block wx.heap.size (by show wx.heap.size < (wx.alloc _).heap.size; simp)).trans (heap_alloc_new wx _)
  refine ⟨?_, ?_, ?_⟩ <;> (rw [Lib.cell_of_heap h]; rfl)
theorem two_boxes {w W : World} {a : Array Value} {c : Array Value} (hW : (w.alloc (.cells a 26)).alloc (.cells c 64) = W) : Below w.heap.size w W ∧ W.heap[w.heap.size]? = some (.cells a 26 (0, 0)) ∧ W.heap[w.heap.size + 1]? = some (.cells c 64 (0, 0)) := by
  subst hW
  refine ⟨((Below.refl _ _).alloc (Nat.le_refl _) _).alloc (by simp) _, ?_, ?_⟩
  · rw [Below.heap_alloc _ _ _ (by simp)]; exact heap_alloc_new w _
  · have h := heap_alloc_new (w.alloc (.cells a 26)) (.cells c 64)
    have e : (w.alloc (.cells a 26)).heap.size = w.heap.size + 1 := by simp
    rw [e] at h
    exact h

end Go.Proofs.YtjanpglnahagdaaGreatDoor