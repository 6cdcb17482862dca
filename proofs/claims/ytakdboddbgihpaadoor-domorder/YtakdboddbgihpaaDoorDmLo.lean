/-
  Package dom: lo, hi, holds.
-/
import Derived.Test.YtakdboddbgihpaaDoorDmLeft
namespace Go.Proofs.YtakdboddbgihpaaDoor
open Go.RowKit

set_option maxRecDepth 10000 in
set_option maxHeartbeats 400000 in
theorem lo_any (f a b : Int) (w : World) (h1 : -1000000000 ≤ f) (h2 : f ≤ 1000000000) (ha : IsW a) (hb : IsW b) (hT : Tz w) (hs : 0 < w.heap.size) : Calls Tryd.prog 36 #[dmVal f a b] w fun e w' => e = .returned (.int .i64 (f + bLow a b)) ∧ Below w.heap.size w w' := by
  have hl := bLow_lo a b
  have e1 : IntKind.i64.wrap (f + bLow a b) = f + bLow a b := wrap_id (by omega) (by omega)
  obtain ⟨W, hW⟩ : ∃ W, w.alloc (.cells #[.int .i64 f, .int .u32 a, .int .u32 b] 67) = W := ⟨_, rfl⟩
  have hb0 : Below w.heap.size w W := by rw [← hW]; exact (Below.refl _ _).alloc (Nat.le_refl _) _
  have HB : Hid (Below w.heap.size w W) := hb0
  have g0 : W.heap[w.heap.size]? = some (.cells #[.int .i64 f, .int .u32 a, .int .u32 b] 67 (0, 0)) := by rw [← hW]; exact heap_alloc_new w _
  have hlt := (Array.getElem?_eq_some_iff.1 g0).1
  have HS : Hid (∀ w', Below W.heap.size W w' → w'.cell? ⟨w.heap.size, 0, none⟩ = some (.int .i64 f) ∧ w'.cell? ⟨w.heap.size, 1, none⟩ = some (.int .u32 a) ∧ w'.cell? ⟨w.heap.size, 2, none⟩ = some (.int .u32 b) ∧ Below W.heap.size W w') := fun w' hb =>
    ⟨(hb.cell (p := ⟨w.heap.size, 0, none⟩) hlt).trans (cell_of g0 0), (hb.cell (p := ⟨w.heap.size, 1, none⟩) hlt).trans (cell_of g0 1), (hb.cell (p := ⟨w.heap.size, 2, none⟩) hlt).trans (cell_of g0 2), hb⟩
  have HC : Hid (∀ w', Below W.heap.size W w' → Calls Tryd.prog 49 #[btVal a b] w' fun e w2 => e = .returned (.int .i64 (bLow a b)) ∧ Below w'.heap.size w' w2) := fun w' hq => lowest_any a b w' ha hb ((hT.below hb0 hs).below hq (Nat.lt_of_lt_of_le hs hb0.size)) (Nat.lt_of_lt_of_le (Nat.lt_of_lt_of_le hs hb0.size) hq.size)
  clear hb0 g0 hlt hl
  unfold dmVal btVal at *
  go_enter Tryd.func36, Tryd.ntmps36
  go_wp2_with fail
  go_region_held3 (fun w' => w'.cell? ⟨w.heap.size, 0, none⟩ = some (.int .i64 f) ∧ w'.cell? ⟨w.heap.size, 1, none⟩ = some (.int .u32 a) ∧ w'.cell? ⟨w.heap.size, 2, none⟩ = some (.int .u32 b) ∧ Below W.heap.size W w')
    (first | exact HS.out _ (Below.refl _ _).drew | exact HS.out _ (bl_next (And.right (And.right (And.right (by assumption)))) (by assumption)) | assumption)
    (first
      | (go_at_call 49; refine calls_at (HC.out _ (And.right (And.right (And.right (by assumption))))) (by with_reducible rfl) (by with_reducible rfl) ?_; rintro e w1 ⟨rfl, hb1⟩))
  have HB1 : Hid (Below W.heap.size W w1) := And.right (And.right (And.right (by assumption)))
  go_wp2_with fail
  go_ret
  exact ⟨rfl, HB.out.trans (HB1.out.mono HB.out.size)⟩

set_option maxRecDepth 10000 in
set_option maxHeartbeats 400000 in
theorem hi_any (f a b : Int) (w : World) (h1 : -1000000000 ≤ f) (h2 : f ≤ 1000000000) (ha : IsW a) (hb : IsW b) : Calls Tryd.prog 35 #[dmVal f a b] w fun e w' => e = .returned (.int .i64 (f + bHigh a b)) ∧ Below w.heap.size w w' := by
  have hl := bHigh_lo a b
  have e1 : IntKind.i64.wrap (f + bHigh a b) = f + bHigh a b := wrap_id (by omega) (by omega)
  obtain ⟨W, hW⟩ : ∃ W, w.alloc (.cells #[.int .i64 f, .int .u32 a, .int .u32 b] 67) = W := ⟨_, rfl⟩
  have hb0 : Below w.heap.size w W := by rw [← hW]; exact (Below.refl _ _).alloc (Nat.le_refl _) _
  have HB : Hid (Below w.heap.size w W) := hb0
  have g0 : W.heap[w.heap.size]? = some (.cells #[.int .i64 f, .int .u32 a, .int .u32 b] 67 (0, 0)) := by rw [← hW]; exact heap_alloc_new w _
  have hlt := (Array.getElem?_eq_some_iff.1 g0).1
  have HS : Hid (∀ w', Below W.heap.size W w' → w'.cell? ⟨w.heap.size, 0, none⟩ = some (.int .i64 f) ∧ w'.cell? ⟨w.heap.size, 1, none⟩ = some (.int .u32 a) ∧ w'.cell? ⟨w.heap.size, 2, none⟩ = some (.int .u32 b) ∧ Below W.heap.size W w') := fun w' hb =>
    ⟨(hb.cell (p := ⟨w.heap.size, 0, none⟩) hlt).trans (cell_of g0 0), (hb.cell (p := ⟨w.heap.size, 1, none⟩) hlt).trans (cell_of g0 1), (hb.cell (p := ⟨w.heap.size, 2, none⟩) hlt).trans (cell_of g0 2), hb⟩
  have HC : Hid (∀ w', Below W.heap.size W w' → Calls Tryd.prog 48 #[btVal a b] w' fun e w2 => e = .returned (.int .i64 (bHigh a b)) ∧ Below w'.heap.size w' w2) := fun w' _ => highest_any a b w' ha hb
  clear hb0 g0 hlt hl
  unfold dmVal btVal at *
  go_enter Tryd.func35, Tryd.ntmps35
  go_wp2_with fail
  go_region_held3 (fun w' => w'.cell? ⟨w.heap.size, 0, none⟩ = some (.int .i64 f) ∧ w'.cell? ⟨w.heap.size, 1, none⟩ = some (.int .u32 a) ∧ w'.cell? ⟨w.heap.size, 2, none⟩ = some (.int .u32 b) ∧ Below W.heap.size W w')
    (first | exact HS.out _ (Below.refl _ _).drew | exact HS.out _ (bl_next (And.right (And.right (And.right (by assumption)))) (by assumption)) | assumption)
    (first
      | (go_at_call 48; refine calls_at (HC.out _ (And.right (And.right (And.right (by assumption))))) (by with_reducible rfl) (by with_reducible rfl) ?_; rintro e w1 ⟨rfl, hb1⟩))
  have HB1 : Hid (Below W.heap.size W w1) := And.right (And.right (And.right (by assumption)))
  go_wp2_with fail
  go_ret
  exact ⟨rfl, HB.out.trans (HB1.out.mono HB.out.size)⟩

def dHas (f a b v : Int) : Bool := btAt a b (dPlc f v)
set_option maxRecDepth 10000 in
set_option maxHeartbeats 400000 in
theorem holds_any (f a b v : Int) (w : World) (h1 : -1000000000 ≤ f) (h2 : f ≤ 1000000000) : Calls Tryd.prog 30 #[dmVal f a b, .int .i64 v] w fun e w' => e = .returned (.bool (dHas f a b v)) ∧ Below w.heap.size w w' := by
  obtain ⟨W, hW⟩ : ∃ W, w.alloc (.cells #[.int .i64 f, .int .u32 a, .int .u32 b] 67) = W := ⟨_, rfl⟩
  have hb0 : Below w.heap.size w W := by rw [← hW]; exact (Below.refl _ _).alloc (Nat.le_refl _) _
  have HB : Hid (Below w.heap.size w W) := hb0
  have g0 : W.heap[w.heap.size]? = some (.cells #[.int .i64 f, .int .u32 a, .int .u32 b] 67 (0, 0)) := by rw [← hW]; exact heap_alloc_new w _
  have hlt := (Array.getElem?_eq_some_iff.1 g0).1
  have HS : Hid (∀ w', Below W.heap.size W w' → w'.cell? ⟨w.heap.size, 0, none⟩ = some (.int .i64 f) ∧ w'.cell? ⟨w.heap.size, 1, none⟩ = some (.int .u32 a) ∧ w'.cell? ⟨w.heap.size, 2, none⟩ = some (.int .u32 b) ∧ Below W.heap.size W w') := fun w' hb =>
    ⟨(hb.cell (p := ⟨w.heap.size, 0, none⟩) hlt).trans (cell_of g0 0), (hb.cell (p := ⟨w.heap.size, 1, none⟩) hlt).trans (cell_of g0 1), (hb.cell (p := ⟨w.heap.size, 2, none⟩) hlt).trans (cell_of g0 2), hb⟩
  have HP : Hid (∀ w', Calls Tryd.prog 44 #[dmVal f a b, .int .i64 v] w' fun e w2 => e = .returned (.int .i64 (dPlc f v)) ∧ Below w'.heap.size w' w2) := fun w' => place_any f a b v w' h1 h2
  have HC : Hid (∀ w', Calls Tryd.prog 43 #[btVal a b, .int .i64 (dPlc f v)] w' fun e w2 => e = .returned (.bool (btAt a b (dPlc f v))) ∧ Below w'.heap.size w' w2) := fun w' => at_any a b _ w'
  clear hb0 g0 hlt
  unfold dHas
  unfold dmVal btVal at *
  go_enter Tryd.func30, Tryd.ntmps30
  go_wp2_with fail
  go_region_held3 (fun w' => w'.cell? ⟨w.heap.size, 0, none⟩ = some (.int .i64 f) ∧ w'.cell? ⟨w.heap.size, 1, none⟩ = some (.int .u32 a) ∧ w'.cell? ⟨w.heap.size, 2, none⟩ = some (.int .u32 b) ∧ Below W.heap.size W w')
    (first | exact HS.out _ (Below.refl _ _).drew | exact HS.out _ (bl_next (And.right (And.right (And.right (by assumption)))) (by assumption)) | assumption)
    (first
      | (go_at_call 44; refine calls_at (HP.out _) (by with_reducible rfl) (by with_reducible rfl) ?_; rintro e w1 ⟨rfl, hb1⟩)
      | (go_at_call 43; refine calls_at (HC.out _) (by with_reducible rfl) (by with_reducible rfl) ?_; rintro e w2 ⟨rfl, hb2⟩))
  have HB1 : Hid (Below W.heap.size W w2) := And.right (And.right (And.right (by assumption)))
  go_wp2_with fail
  go_ret
  exact ⟨rfl, HB.out.trans (HB1.out.mono HB.out.size)⟩
end Go.Proofs.YtakdboddbgihpaaDoor
