/-
  Put together: DmDom, DmLeft, DmLo.
-/
import Derived.Test.YtdfbmfikhccajaaDoorDmLow
import Derived.Test.YtdfbmfikhccajaaDoorMdOff
import Derived.Deep.RegionHeld3
namespace Go.Proofs.YtdfbmfikhccajaaDoor
open Go.RowKit

theorem bl_next {W a b : World} (h : Below W.heap.size W a) (h2 : Below a.heap.size a b) : Below W.heap.size W b := h.trans (h2.mono h.size)
def oWd (k i : Int) : Int := bits .andNot .u32 (fWd k i) (fWd (k + 1) i)

/-- All values of a variable. -/
def wWd (lo hi i : Int) : Int := bits .andNot .u32 (fWd 0 i) (fWd (hi - lo + 1) i)

theorem wrap_id {n : Int} (h0 : -9223372036854775808 ≤ n) (h1 : n < 9223372036854775808) : IntKind.i64.wrap n = n := by
  simp [IntKind.wrap, IntKind.bits, IntKind.signed]; omega
theorem set3 {w : World} {N : Nat} {a0 a1 a2 : Value} {t : TypeId} (h : w.heap[N]? = some (.cells #[a0, a1, a2] t (0, 0))) (b0 b1 b2 : Value) : (((w.setCell ⟨N, 0, none⟩ b0).setCell ⟨N, 1, none⟩ b1).setCell ⟨N, 2, none⟩ b2).heap[N]? = some (.cells #[b0, b1, b2] t (0, 0)) := by
  have hE := heap_setCell_same _ N 2 _ t b2 (heap_setCell_same _ N 1 _ t b1 (heap_setCell_same w N 0 _ t b0 h))
  simpa only [List.setIfInBounds_toArray, List.set_cons_zero, List.set_cons_succ] using hE
theorem info67 : (Tryd.prog.info? 61).map (·.size) = some 3 := by kernel_rfl

/-- A region under way: but a result's block all is as it was. -/
structure Rg3 (w W : World) (R : Nat) (w' : World) : Prop where
  below : Below w.heap.size w w'
  off : Off (fun k => k = R) W w'
  le : w.heap.size ≤ R
  lt : R < w'.heap.size
  blk : ∃ a b c, w'.heap[R]? = some (.cells #[a, b, c] 61 (0, 0))
theorem Rg3.next {w W w1 w2 : World} {R : Nat} (h : Rg3 w W R w1) (hb : Below w1.heap.size w1 w2) : Rg3 w W R w2 := by
  obtain ⟨a, b, c, hc⟩ := h.blk
  exact ⟨h.below.trans (hb.mono h.below.size), h.off.trans (Off.of_below hb), h.le, Nat.lt_of_lt_of_le h.lt hb.size, a, b, c, (hb.block _ h.lt).trans hc⟩
theorem Rg3.set {w W w1 : World} {R : Nat} (h : Rg3 w W R w1) (x y z : Value) : Rg3 w W R (((w1.setCell ⟨R, 0, none⟩ x).setCell ⟨R, 1, none⟩ y).setCell ⟨R, 2, none⟩ z) := by
  obtain ⟨a, b, c, hc⟩ := h.blk
  exact ⟨((h.below.setCell h.le _).setCell h.le _).setCell h.le _, ((h.off.trans (Off.set _ rfl)).trans (Off.set _ rfl)).trans (Off.set _ rfl), h.le, by simpa using h.lt, x, y, z, set3 hc _ _ _⟩
theorem Rg3.cells {w W w1 : World} {R : Nat} (h : Rg3 w W R w1) : ∃ a b c, w1.cell? ⟨R, 0, none⟩ = some a ∧ w1.cell? ⟨R, 1, none⟩ = some b ∧ w1.cell? ⟨R, 2, none⟩ = some c ∧ ∀ i, w1.frozen? ⟨R, i, none⟩ = false := by
  obtain ⟨a, b, c, hc⟩ := h.blk
  exact ⟨a, b, c, cell_of hc 0, cell_of hc 1, cell_of hc 2, frozen_of hc⟩
theorem Off.cell {S : Nat → Prop} {w w' : World} {g i : Nat} (h : Off S w w') (hg : g < w.heap.size) (hs : ¬ S g) : w'.cell? ⟨g, i, none⟩ = w.cell? ⟨g, i, none⟩ := by
  have := h.block g hg hs
  simp only [World.cell?, this]

set_option maxRecDepth 10000 in
set_option maxHeartbeats 400000 in
theorem whole_any (nm : ByteArray) (lo hi : Int) (w : World) (h3 : lo ≤ hi) (h4 : hi ≤ lo + 63) : Calls Tryd.prog 15 #[.agg #[.string nm, .int .i64 lo, .int .i64 hi]] w fun e w' => e = .returned (dmVal lo (wWd lo hi 0) (wWd lo hi 1)) ∧ Below w.heap.size w w' := by
  have e1 : IntKind.i64.wrap (hi - lo) = hi - lo := wrap_id (by omega) (by omega)
  have e2 : IntKind.i64.wrap (hi - lo + 1) = hi - lo + 1 := wrap_id (by omega) (by omega)
  have HA : Hid (∀ w', Calls Tryd.prog 24 #[.int .i64 0] w' fun e w2 => e = .returned (btVal (fWd 0 0) (fWd 0 1)) ∧ Below w'.heap.size w' w2) := fun w' => from_any 0 w' (by decide) (by decide)
  have HC : Hid (∀ w', Calls Tryd.prog 24 #[.int .i64 (hi - lo + 1)] w' fun e w2 => e = .returned (btVal (fWd (hi - lo + 1) 0) (fWd (hi - lo + 1) 1)) ∧ Below w'.heap.size w' w2) := fun w' => from_any (hi - lo + 1) w' (by omega) (by omega)
  have HL : Hid (∀ w', Calls Tryd.prog 25 #[btVal (fWd 0 0) (fWd 0 1), btVal (fWd (hi - lo + 1) 0) (fWd (hi - lo + 1) 1)] w' fun e w2 => e = .returned (btVal (wWd lo hi 0) (wWd lo hi 1)) ∧ Below w'.heap.size w' w2) := fun w' => less_any _ _ _ _ w'
  obtain ⟨W, hW⟩ : ∃ W, (w.alloc (.cells #[.string nm, .int .i64 lo, .int .i64 hi] 39)).alloc (.cells #[.int .i64 0, .int .u32 0, .int .u32 0] 61) = W := ⟨_, rfl⟩
  have hb0 : Below w.heap.size w W := by rw [← hW]; exact ((Below.refl _ _).alloc (Nat.le_refl _) _).alloc (by simp) _
  have HB : Hid (Below w.heap.size w W) := hb0
  have g0 : W.heap[w.heap.size]? = some (.cells #[.string nm, .int .i64 lo, .int .i64 hi] 39 (0, 0)) := by rw [← hW, heap_alloc_old (w.alloc _) _ (by simp)]; exact heap_alloc_new w _
  have g1 : W.heap[w.heap.size + 1]? = some (.cells #[.int .i64 0, .int .u32 0, .int .u32 0] 61 (0, 0)) := by rw [← hW]; exact heap_alloc2_new w _ _
  have HS : Hid (∀ w', Rg3 w W (w.heap.size + 1) w' → w'.cell? ⟨w.heap.size, 1, none⟩ = some (.int .i64 lo) ∧ w'.cell? ⟨w.heap.size, 2, none⟩ = some (.int .i64 hi) ∧ Rg3 w W (w.heap.size + 1) w') := fun w' hb =>
    ⟨(hb.off.cell (Array.getElem?_eq_some_iff.1 g0).1 (by simp)).trans (cell_of g0 1), (hb.off.cell (Array.getElem?_eq_some_iff.1 g0).1 (by simp)).trans (cell_of g0 2), hb⟩
  have HR : Hid (Rg3 w W (w.heap.size + 1) W) := ⟨hb0, Off.refl _ _, by simp, (Array.getElem?_eq_some_iff.1 g1).1, _, _, _, g1⟩
  clear hb0 g0 g1
  go_enter Tryd.func15, Tryd.ntmps15
  go_wp2_with fail
  unfold btVal at *
  go_region_held3 (fun w' => w'.cell? ⟨w.heap.size, 1, none⟩ = some (.int .i64 lo) ∧ w'.cell? ⟨w.heap.size, 2, none⟩ = some (.int .i64 hi) ∧ Rg3 w W (w.heap.size + 1) w')
    (first | exact HS.out _ (HR.out.next (Below.refl _ _).drew) | exact HS.out _ (Rg3.next (And.right (And.right (by assumption))) (by assumption)) | exact HS.out _ (Rg3.set (And.right (And.right (by assumption))) _ _ _) | exact HS.out _ (Rg3.set (Rg3.next (And.right (And.right (by assumption))) (by assumption)) _ _ _) | assumption)
    (first
      | (go_at_call 24; refine calls_at (HA.out _) (by with_reducible rfl) (by with_reducible rfl) ?_; rintro e w1 ⟨rfl, hb1⟩)
      | (go_at_call 24; refine calls_at (HC.out _) (by with_reducible rfl) (by with_reducible rfl) ?_; rintro e w1 ⟨rfl, hb1⟩)
      | (go_at_call 25; refine calls_at (HL.out _) (by with_reducible rfl) (by with_reducible rfl) ?_; rintro e w1 ⟨rfl, hb1⟩; (have hR1 := Rg3.next (And.right (And.right (by assumption))) hb1); obtain ⟨r0, r1, r2, hr0, hr1, hr2, hz⟩ := hR1.cells; (have HR1 : Hid (Rg3 w W (w.heap.size + 1) w1) := hR1); clear hR1))
  obtain ⟨x0, x1, x2, hx⟩ := HR1.out.blk
  have HX : Hid (w1.heap[w.heap.size + 1]? = some (.cells #[x0, x1, x2] 61 (0, 0))) := hx
  clear hx
  go_wp2_with fail
  exact bodyPost_ret (v := dmVal lo (wWd lo hi 0) (wWd lo hi 1)) (results_cell_row Tryd.results15 _ _ (w.heap.size + 1) 61 #[.int .i64 lo, .int .u32 (wWd lo hi 0), .int .u32 (wWd lo hi 1)] (0, 0) _ rfl (set3 HX.out _ _ _) Tryd.underlying61 rfl info67) rfl ⟨rfl, (HR1.out.set _ _ _).below⟩
end Go.Proofs.YtdfbmfikhccajaaDoor

namespace Go.Proofs.YtdfbmfikhccajaaDoor
open Go.RowKit

/-- A region under way: but a result's block all is as it was. -/
structure Rg2 (w W : World) (R : Nat) (w' : World) : Prop where
  below : Below w.heap.size w w'
  off : Off (fun k => k = R) W w'
  le : w.heap.size ≤ R
  lt : R < w'.heap.size
  blk : ∃ a b, w'.heap[R]? = some (.cells #[a, b] 59 (0, 0))
theorem Rg2.next {w W w1 w2 : World} {R : Nat} (h : Rg2 w W R w1) (hb : Below w1.heap.size w1 w2) : Rg2 w W R w2 := by
  obtain ⟨a, b, hc⟩ := h.blk
  exact ⟨h.below.trans (hb.mono h.below.size), h.off.trans (Off.of_below hb), h.le, Nat.lt_of_lt_of_le h.lt hb.size, a, b, (hb.block _ h.lt).trans hc⟩
theorem Rg2.set {w W w1 : World} {R : Nat} (h : Rg2 w W R w1) (x y : Value) : Rg2 w W R ((w1.setCell ⟨R, 0, none⟩ x).setCell ⟨R, 1, none⟩ y) := by
  obtain ⟨a, b, hc⟩ := h.blk
  exact ⟨(h.below.setCell h.le _).setCell h.le _, (h.off.trans (Off.set _ rfl)).trans (Off.set _ rfl), h.le, by simpa using h.lt, x, y, set2 hc _ _⟩
theorem Rg2.cells {w W w1 : World} {R : Nat} (h : Rg2 w W R w1) : ∃ a b, w1.cell? ⟨R, 0, none⟩ = some a ∧ w1.cell? ⟨R, 1, none⟩ = some b ∧ ∀ i, w1.frozen? ⟨R, i, none⟩ = false := by
  obtain ⟨a, b, hc⟩ := h.blk
  exact ⟨a, b, cell_of hc 0, cell_of hc 1, frozen_of hc⟩

/-- A cut, as a value; what it leaves of a word. -/
def ctVal (k x v : Int) : Value := .agg #[.int .i64 k, .int .i64 x, .int .i64 v]
def lWd (at_ k x i : Int) : Int := if k = 1 then bits .and .u32 x (fWd at_ i) else if k = 2 then bits .andNot .u32 x (fWd (at_ + 1) i) else if k = 3 then bits .andNot .u32 x (oWd at_ i) else x
theorem isW_lWd {at_ k x i : Int} (h : IsW x) : IsW (lWd at_ k x i) := by
  unfold lWd
  split
  · exact isW_bits _ _ _
  · split
    · exact isW_bits _ _ _
    · split
      · exact isW_bits _ _ _
      · exact h

end Go.Proofs.YtdfbmfikhccajaaDoor

namespace Go.Proofs.YtdfbmfikhccajaaDoor
open Go.RowKit

set_option maxRecDepth 10000 in
set_option maxHeartbeats 400000 in
theorem lo_any (f a b : Int) (w : World) (h1 : -1000000000 ≤ f) (h2 : f ≤ 1000000000) (ha : IsW a) (hb : IsW b) (hT : Tz w) (hs : 0 < w.heap.size) : Calls Tryd.prog 29 #[dmVal f a b] w fun e w' => e = .returned (.int .i64 (f + bLow a b)) ∧ Below w.heap.size w w' := by
  have hl := bLow_lo a b
  have e1 : IntKind.i64.wrap (f + bLow a b) = f + bLow a b := wrap_id (by omega) (by omega)
  obtain ⟨W, hW⟩ : ∃ W, w.alloc (.cells #[.int .i64 f, .int .u32 a, .int .u32 b] 61) = W := ⟨_, rfl⟩
  have hb0 : Below w.heap.size w W := by rw [← hW]; exact (Below.refl _ _).alloc (Nat.le_refl _) _
  have HB : Hid (Below w.heap.size w W) := hb0
  have g0 : W.heap[w.heap.size]? = some (.cells #[.int .i64 f, .int .u32 a, .int .u32 b] 61 (0, 0)) := by rw [← hW]; exact heap_alloc_new w _
  have hlt := (Array.getElem?_eq_some_iff.1 g0).1
  have HS : Hid (∀ w', Below W.heap.size W w' → w'.cell? ⟨w.heap.size, 0, none⟩ = some (.int .i64 f) ∧ w'.cell? ⟨w.heap.size, 1, none⟩ = some (.int .u32 a) ∧ w'.cell? ⟨w.heap.size, 2, none⟩ = some (.int .u32 b) ∧ Below W.heap.size W w') := fun w' hb =>
    ⟨(hb.cell (p := ⟨w.heap.size, 0, none⟩) hlt).trans (cell_of g0 0), (hb.cell (p := ⟨w.heap.size, 1, none⟩) hlt).trans (cell_of g0 1), (hb.cell (p := ⟨w.heap.size, 2, none⟩) hlt).trans (cell_of g0 2), hb⟩
  have HC : Hid (∀ w', Below W.heap.size W w' → Calls Tryd.prog 46 #[btVal a b] w' fun e w2 => e = .returned (.int .i64 (bLow a b)) ∧ Below w'.heap.size w' w2) := fun w' hq => lowest_any a b w' ha hb ((hT.below hb0 hs).below hq (Nat.lt_of_lt_of_le hs hb0.size)) (Nat.lt_of_lt_of_le (Nat.lt_of_lt_of_le hs hb0.size) hq.size)
  clear hb0 g0 hlt hl
  unfold dmVal btVal at *
  go_enter Tryd.func29, Tryd.ntmps29
  go_wp2_with fail
  go_region_held3 (fun w' => w'.cell? ⟨w.heap.size, 0, none⟩ = some (.int .i64 f) ∧ w'.cell? ⟨w.heap.size, 1, none⟩ = some (.int .u32 a) ∧ w'.cell? ⟨w.heap.size, 2, none⟩ = some (.int .u32 b) ∧ Below W.heap.size W w')
    (first | exact HS.out _ (Below.refl _ _).drew | exact HS.out _ (bl_next (And.right (And.right (And.right (by assumption)))) (by assumption)) | assumption)
    (first
      | (go_at_call 46; refine calls_at (HC.out _ (And.right (And.right (And.right (by assumption))))) (by with_reducible rfl) (by with_reducible rfl) ?_; rintro e w1 ⟨rfl, hb1⟩))
  have HB1 : Hid (Below W.heap.size W w1) := And.right (And.right (And.right (by assumption)))
  go_wp2_with fail
  go_ret
  exact ⟨rfl, HB.out.trans (HB1.out.mono HB.out.size)⟩

set_option maxRecDepth 10000 in
set_option maxHeartbeats 400000 in
theorem hi_any (f a b : Int) (w : World) (h1 : -1000000000 ≤ f) (h2 : f ≤ 1000000000) (ha : IsW a) (hb : IsW b) : Calls Tryd.prog 28 #[dmVal f a b] w fun e w' => e = .returned (.int .i64 (f + bHigh a b)) ∧ Below w.heap.size w w' := by
  have hl := bHigh_lo a b
  have e1 : IntKind.i64.wrap (f + bHigh a b) = f + bHigh a b := wrap_id (by omega) (by omega)
  obtain ⟨W, hW⟩ : ∃ W, w.alloc (.cells #[.int .i64 f, .int .u32 a, .int .u32 b] 61) = W := ⟨_, rfl⟩
  have hb0 : Below w.heap.size w W := by rw [← hW]; exact (Below.refl _ _).alloc (Nat.le_refl _) _
  have HB : Hid (Below w.heap.size w W) := hb0
  have g0 : W.heap[w.heap.size]? = some (.cells #[.int .i64 f, .int .u32 a, .int .u32 b] 61 (0, 0)) := by rw [← hW]; exact heap_alloc_new w _
  have hlt := (Array.getElem?_eq_some_iff.1 g0).1
  have HS : Hid (∀ w', Below W.heap.size W w' → w'.cell? ⟨w.heap.size, 0, none⟩ = some (.int .i64 f) ∧ w'.cell? ⟨w.heap.size, 1, none⟩ = some (.int .u32 a) ∧ w'.cell? ⟨w.heap.size, 2, none⟩ = some (.int .u32 b) ∧ Below W.heap.size W w') := fun w' hb =>
    ⟨(hb.cell (p := ⟨w.heap.size, 0, none⟩) hlt).trans (cell_of g0 0), (hb.cell (p := ⟨w.heap.size, 1, none⟩) hlt).trans (cell_of g0 1), (hb.cell (p := ⟨w.heap.size, 2, none⟩) hlt).trans (cell_of g0 2), hb⟩
  have HC : Hid (∀ w', Below W.heap.size W w' → Calls Tryd.prog 45 #[btVal a b] w' fun e w2 => e = .returned (.int .i64 (bHigh a b)) ∧ Below w'.heap.size w' w2) := fun w' _ => highest_any a b w' ha hb
  clear hb0 g0 hlt hl
  unfold dmVal btVal at *
  go_enter Tryd.func28, Tryd.ntmps28
  go_wp2_with fail
  go_region_held3 (fun w' => w'.cell? ⟨w.heap.size, 0, none⟩ = some (.int .i64 f) ∧ w'.cell? ⟨w.heap.size, 1, none⟩ = some (.int .u32 a) ∧ w'.cell? ⟨w.heap.size, 2, none⟩ = some (.int .u32 b) ∧ Below W.heap.size W w')
    (first | exact HS.out _ (Below.refl _ _).drew | exact HS.out _ (bl_next (And.right (And.right (And.right (by assumption)))) (by assumption)) | assumption)
    (first
      | (go_at_call 45; refine calls_at (HC.out _ (And.right (And.right (And.right (by assumption))))) (by with_reducible rfl) (by with_reducible rfl) ?_; rintro e w1 ⟨rfl, hb1⟩))
  have HB1 : Hid (Below W.heap.size W w1) := And.right (And.right (And.right (by assumption)))
  go_wp2_with fail
  go_ret
  exact ⟨rfl, HB.out.trans (HB1.out.mono HB.out.size)⟩

def dHas (f a b v : Int) : Bool := btAt a b (dPlc f v)
end Go.Proofs.YtdfbmfikhccajaaDoor
