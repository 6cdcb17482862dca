/-
  The text of a page that has none.
-/
import Derived.Test.YtibbnijicdijnaaGreatDoorJ07
namespace Go.Proofs.YtibbnijicdijnaaGreatDoor
open Go.RowKit
open Go.Lib (byteCells strCells)

/-- The text of what has none. -/
theorem string_none (B b : Nat) (w : World) (h : PageAt B b [] w) :
    Calls Tryz.prog 39 #[.pointer (some ⟨b, 0, none⟩)] w fun e w' => e = .returned (.string ⟨#[]⟩) ∧ Below B w w' := by
  obtain ⟨hB, q, v, hbk, hq, hown⟩ := h
  have hUS : ∀ (W : World) (p : Option Addr), (Builtin.unsafeString_ #[122, 3] 9 #[.pointer p, .int .i64 0]).run Tryz.prog W = .ok (.string ⟨#[]⟩) W := fun W p => Lib.run_unsafeString_none W _ _ _ p
  have mixed : Tryz.prog.follows Departure.mixedOrders = true := by kernel_rfl
  have hd : Below B w w.drew := Below.drew (Below.refl B w)
  have hBw : B ≤ w.drew.heap.size := Nat.le_trans hB (Nat.le_of_lt (Array.getElem?_eq_some_iff.1 hbk).1)
  obtain ⟨a, cap, rfl, p, W, hSD, hbW, hbX⟩ : ∃ a cap, v = .slice a 0 cap ∧ ∃ p W, (Builtin.unsafeSliceData_ #[71] 122 #[.slice a 0 cap]).run Tryz.prog w.drew = .ok (.pointer p) W ∧ Below B w W ∧ Below w.drew.heap.size w.drew W := by
    rcases hown.2 with ⟨rfl, _⟩ | ⟨g, cap, cur, rfl, _, hg, _, _, hcs, _⟩
    · exact ⟨_, _, rfl, _, _, Lib.run_unsafeSliceData_nil _ _ _ _ _, hd, Below.refl _ _⟩
    · by_cases hc : cap = 0
      · subst hc
        have hg' : w.drew.heap[g]? = some (.cells cur 5 (0, 0)) := hg
        exact ⟨_, _, rfl, _, _, Lib.run_unsafeSliceData_zero _ _ _ _ Tryz.underlying122 ⟨g, 0, none⟩ _ (5, cur.size) (by simp [World.shape?, hg']), hd.trans ((Below.refl _ _).alloc hBw _), (Below.refl _ _).alloc (Nat.le_refl _) _⟩
      · exact ⟨_, _, rfl, _, _, Lib.run_unsafeSliceData_row _ _ _ _ _ _ hc, hd, Below.refl _ _⟩
  have c1 : w.drew.cell? ⟨b, 1, none⟩ = some (.slice a 0 cap) := by
    have : w.drew.heap[b]? = some (.cells #[.pointer q, .slice a 0 cap] 125 (0, 0)) := hbk
    rw [Lib.cell_of_heap this]; rfl
  have c2 : W.cell? ⟨b, 1, none⟩ = some (.slice a 0 cap) := (hbX.cell (p := ⟨b, 1, none⟩) (Array.getElem?_eq_some_iff.1 hbk).1).trans c1
  clear hown hbk hq hd hBw hbX
  go_enter Tryz.func39, Tryz.ntmps39
  go_wp2
  go_region_o
  all_goals (go_wp2; go_ret; exact ⟨rfl, hbW⟩)
namespace Bd
/-- The text of what has none. -/
theorem string_none (B b : Nat) (w : World) (h : PageAt B b [] w) :
    Calls Tryz.prog 39 #[.pointer (some ⟨b, 0, none⟩)] w fun e w' => e = .returned (.string ⟨#[]⟩) ∧ Below B w w' := by
  obtain ⟨hB, q, v, hbk, hq, hown⟩ := h
  have hUS : ∀ (W : World) (p : Option Addr), (Builtin.unsafeString_ #[122, 3] 9 #[.pointer p, .int .i64 0]).run Tryz.prog W = .ok (.string ⟨#[]⟩) W := fun W p => Lib.run_unsafeString_none W _ _ _ p
  have mixed : Tryz.prog.follows Departure.mixedOrders = true := by kernel_rfl
  have hd : Below B w w.drew := Below.drew (Below.refl B w)
  have hBw : B ≤ w.drew.heap.size := Nat.le_trans hB (Nat.le_of_lt (Array.getElem?_eq_some_iff.1 hbk).1)
  obtain ⟨a, cap, rfl, p, W, hSD, hbW, hbX⟩ : ∃ a cap, v = .slice a 0 cap ∧ ∃ p W, (Builtin.unsafeSliceData_ #[71] 122 #[.slice a 0 cap]).run Tryz.prog w.drew = .ok (.pointer p) W ∧ Below B w W ∧ Below w.drew.heap.size w.drew W := by
    rcases hown.2 with ⟨rfl, _⟩ | ⟨g, cap, cur, rfl, _, hg, _, _, hcs, _⟩
    · exact ⟨_, _, rfl, _, _, Lib.run_unsafeSliceData_nil _ _ _ _ _, hd, Below.refl _ _⟩
    · by_cases hc : cap = 0
      · subst hc
        have hg' : w.drew.heap[g]? = some (.cells cur 5 (0, 0)) := hg
        exact ⟨_, _, rfl, _, _, Lib.run_unsafeSliceData_zero _ _ _ _ Tryz.underlying122 ⟨g, 0, none⟩ _ (5, cur.size) (by simp [World.shape?, hg']), hd.trans ((Below.refl _ _).alloc hBw _), (Below.refl _ _).alloc (Nat.le_refl _) _⟩
      · exact ⟨_, _, rfl, _, _, Lib.run_unsafeSliceData_row _ _ _ _ _ _ hc, hd, Below.refl _ _⟩
  have c1 : w.drew.cell? ⟨b, 1, none⟩ = some (.slice a 0 cap) := by
    have : w.drew.heap[b]? = some (.cells #[.pointer q, .slice a 0 cap] 90 (0, 0)) := hbk
    rw [Lib.cell_of_heap this]; rfl
  have c2 : W.cell? ⟨b, 1, none⟩ = some (.slice a 0 cap) := (hbX.cell (p := ⟨b, 1, none⟩) (Array.getElem?_eq_some_iff.1 hbk).1).trans c1
  clear hown hbk hq hd hBw hbX
  go_enter Tryz.func39, Tryz.ntmps39
  go_wp2
  go_region_o
  all_goals (go_wp2; go_ret; exact ⟨rfl, hbW⟩)
end Bd
end Go.Proofs.YtibbnijicdijnaaGreatDoor
