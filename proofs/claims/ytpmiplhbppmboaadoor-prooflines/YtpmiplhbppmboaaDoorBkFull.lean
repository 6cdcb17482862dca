/-
  The book: texts, where none waits and none is fresh.
-/
import Derived.Test.YtpmiplhbppmboaaDoorBkSt
namespace Go.Proofs.YtpmiplhbppmboaaDoor
open Go Go.RowKit Go.Lib

set_option maxRecDepth 100000 in
set_option maxHeartbeats 1000000 in
theorem growTexts_none (P : Nat) (bad : Bool) (turn deep : Int) (t : Tx) (w : World) (h : BkAt w P bad turn deep t) (h4 : t.fresh = .slice none 0 0) (h7 : t.from_ = .slice none 0 0) : Calls Tryd.prog 67 #[.pointer (some ⟨P, 0, none⟩)] w fun e w' => e = .returned (.tuple #[]) ∧ w' = w := by
  have k4 := h.cell 17 (.slice none 0 0) (by rw [← h4]; rfl)
  have f4 := h.free 17
  have f7 := h.free 20
  have k7 := h.cell 20 (.slice none 0 0) (by rw [← h7]; rfl)
  have HW1 : Hid (w.setCell ⟨P, 17, none⟩ (.slice none 0 0) = w) := h.same 17 _ (by rw [← h4]; rfl)
  have HW2 : Hid (w.setCell ⟨P, 20, none⟩ (.slice none 0 0) = w) := h.same 20 _ (by rw [← h7]; rfl)
  clear h h4 h7
  go_enter Tryd.func67, Tryd.ntmps67
  go_wp2_with fail
  go_loopw [2] (fun iv wr => iv = .int .i64 0 ∧ wr = w) (fun _ _ => 0)
  case atStart => exact ⟨rfl, rfl⟩
  case round =>
    obtain ⟨rfl, rfl⟩ := hrel
    go_wp2_with fail
    rw [HW1.out, HW2.out]
    go_end0
    exact ⟨rfl, rfl⟩

set_option maxRecDepth 100000 in
set_option maxHeartbeats 1000000 in
theorem markTexts_none (P : Nat) (bad : Bool) (turn deep : Int) (t : Tx) (w : World) (h : BkAt w P bad turn deep t) (h2 : t.waits = .slice none 0 0) (h3 : t.note = .slice none 0 0) (h5 : t.mark = .slice none 0 0) (h6 : t.due = .slice none 0 0) : Calls Tryd.prog 52 #[.pointer (some ⟨P, 0, none⟩)] w fun e w' => e = .returned (.tuple #[]) ∧ w' = w := by
  have k2 := h.cell 15 (.slice none 0 0) (by rw [← h2]; rfl)
  have k3 := h.cell 16 (.slice none 0 0) (by rw [← h3]; rfl)
  have k5 := h.cell 18 (.slice none 0 0) (by rw [← h5]; rfl)
  have k6 := h.cell 19 (.slice none 0 0) (by rw [← h6]; rfl)
  clear h h2 h3 h5 h6
  go_enter Tryd.func52, Tryd.ntmps52
  go_wp2_with fail
  exact bodyPost_ret (by simp [results, Tryd.results52, go_sem]) rfl ⟨rfl, rfl⟩

/-- A new book. -/
def tx0 : Tx := ⟨.slice none 0 0, .slice none 0 0, .slice none 0 0, .slice none 0 0, .slice none 0 0, .slice none 0 0, .slice none 0 0, .slice none 0 0, .int .i64 0⟩
end Go.Proofs.YtpmiplhbppmboaaDoor
