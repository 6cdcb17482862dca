/-
  Package dom: left.
-/
import Derived.Test.YtakdboddbgihpaaDoorDmDom
namespace Go.Proofs.YtakdboddbgihpaaDoor
open Go.RowKit

/-- A region under way: but a result's block all is as it was. -/
structure Rg2 (w W : World) (R : Nat) (w' : World) : Prop where
  below : Below w.heap.size w w'
  off : Off (fun k => k = R) W w'
  le : w.heap.size ≤ R
  lt : R < w'.heap.size
  blk : ∃ a b, w'.heap[R]? = some (.cells #[a, b] 65 (0, 0))
theorem Rg2.next {w W w1 w2 : World} {R : Nat} (h : Rg2 w W R w1) (hb : Below w1.heap.size w1 w2) : Rg2 w W R w2 := by
  obtain ⟨a, b, hc⟩ := h.blk
  exact ⟨h.below.trans (hb.mono h.below.size), h.off.trans (Off.of_below hb), h.le, Nat.lt_of_lt_of_le h.lt hb.size, a, b, (hb.block _ h.lt).trans hc⟩
theorem Rg2.set {w W w1 : World} {R : Nat} (h : Rg2 w W R w1) (x y : Value) : Rg2 w W R ((w1.setCell ⟨R, 0, none⟩ x).setCell ⟨R, 1, none⟩ y) := by
  obtain ⟨a, b, hc⟩ := h.blk
  exact ⟨(h.below.setCell h.le _).setCell h.le _, (h.off.trans (Off.set _ rfl)).trans (Off.set _ rfl), h.le, by simpa using h.lt, x, y, set2 hc _ _⟩
theorem Rg2.cells {w W w1 : World} {R : Nat} (h : Rg2 w W R w1) : ∃ a b, w1.cell? ⟨R, 0, none⟩ = some a ∧ w1.cell? ⟨R, 1, none⟩ = some b ∧ ∀ i, w1.frozen? ⟨R, i, none⟩ = false := by
  obtain ⟨a, b, hc⟩ := h.blk
  exact ⟨a, b, cell_of hc 0, cell_of hc 1, frozen_of hc⟩

/-- A cut, as a value; what it leaves of a word. -/
def ctVal (k x v : Int) : Value := .agg #[.int .i64 k, .int .i64 x, .int .i64 v]
def lWd (at_ k x i : Int) : Int := if k = 1 then bits .and .u32 x (fWd at_ i) else if k = 2 then bits .andNot .u32 x (fWd (at_ + 1) i) else if k = 3 then bits .andNot .u32 x (oWd at_ i) else x
theorem isW_lWd {at_ k x i : Int} (h : IsW x) : IsW (lWd at_ k x i) := by
  unfold lWd
  split
  · exact isW_bits _ _ _
  · split
    · exact isW_bits _ _ _
    · split
      · exact isW_bits _ _ _
      · exact h

set_option maxRecDepth 10000 in
set_option maxHeartbeats 1000000 in
theorem left_any (f a b k x v : Int) (w : World) (h1 : -1000000000 ≤ f) (h2 : f ≤ 1000000000) : Calls Tryd.prog 33 #[dmVal f a b, ctVal k x v] w fun e w' => e = .returned (btVal (lWd (dPlc f v) k a 0) (lWd (dPlc f v) k b 1)) ∧ Below w.heap.size w w' := by
  have hl := dPlc_lo f v
  have hh := dPlc_hi f v
  have HP : Hid (∀ w', Calls Tryd.prog 44 #[dmVal f a b, .int .i64 v] w' fun e w2 => e = .returned (.int .i64 (dPlc f v)) ∧ Below w'.heap.size w' w2) := fun w' => place_any f a b v w' h1 h2
  obtain ⟨q, hq⟩ : ∃ q, dPlc f v = q := ⟨_, rfl⟩
  rw [hq] at hl hh HP ⊢
  clear hq
  have e1 : IntKind.i64.wrap (q + 1) = q + 1 := wrap_id (by omega) (by omega)
  have HF : Hid (∀ w', Calls Tryd.prog 40 #[.int .i64 q] w' fun e w2 => e = .returned (btVal (fWd q 0) (fWd q 1)) ∧ Below w'.heap.size w' w2) := fun w' => from_any q w' (by omega) (by omega)
  have HG : Hid (∀ w', Calls Tryd.prog 40 #[.int .i64 (q + 1)] w' fun e w2 => e = .returned (btVal (fWd (q + 1) 0) (fWd (q + 1) 1)) ∧ Below w'.heap.size w' w2) := fun w' => from_any (q + 1) w' (by omega) (by omega)
  have HO : Hid (∀ w', Calls Tryd.prog 47 #[.int .i64 q] w' fun e w2 => e = .returned (btVal (oWd q 0) (oWd q 1)) ∧ Below w'.heap.size w' w2) := fun w' => only_any q w' (by omega) (by omega)
  obtain ⟨W, hW⟩ : ∃ W, ((w.alloc (.cells #[.int .i64 f, .int .u32 a, .int .u32 b] 67)).alloc (.cells #[.int .i64 k, .int .i64 x, .int .i64 v] 34)).alloc (.cells #[.int .u32 0, .int .u32 0] 65) = W := ⟨_, rfl⟩
  have hb0 : Below w.heap.size w W := by rw [← hW]; exact (((Below.refl _ _).alloc (Nat.le_refl _) _).alloc (by simp) _).alloc (by simp; omega) _
  have HB : Hid (Below w.heap.size w W) := hb0
  have g0 : W.heap[w.heap.size]? = some (.cells #[.int .i64 f, .int .u32 a, .int .u32 b] 67 (0, 0)) := by rw [← hW]; exact alloc3_0 w _ _ _
  have g1 : W.heap[w.heap.size + 1]? = some (.cells #[.int .i64 k, .int .i64 x, .int .i64 v] 34 (0, 0)) := by rw [← hW]; exact alloc3_1 w _ _ _
  have g2 : W.heap[w.heap.size + 1 + 1]? = some (.cells #[.int .u32 0, .int .u32 0] 65 (0, 0)) := by rw [← hW]; exact alloc3_2 w _ _ _
  have c0 : W.cell? ⟨w.heap.size, 0, none⟩ = some (.int .i64 f) := cell_of g0 0
  have c1 : W.cell? ⟨w.heap.size, 1, none⟩ = some (.int .u32 a) := cell_of g0 1
  have c2 : W.cell? ⟨w.heap.size, 2, none⟩ = some (.int .u32 b) := cell_of g0 2
  have d2 : W.cell? ⟨w.heap.size + 1, 2, none⟩ = some (.int .i64 v) := cell_of g1 2
  have HR : Hid (Rg2 w W (w.heap.size + 1 + 1) W) := ⟨hb0, Off.refl _ _, by omega, (Array.getElem?_eq_some_iff.1 g2).1, _, _, g2⟩
  have HS : Hid (∀ w', Rg2 w W (w.heap.size + 1 + 1) w' → w'.cell? ⟨w.heap.size, 1, none⟩ = some (.int .u32 a) ∧ w'.cell? ⟨w.heap.size, 2, none⟩ = some (.int .u32 b) ∧ Rg2 w W (w.heap.size + 1 + 1) w') := fun w' hb =>
    ⟨(hb.off.cell (Array.getElem?_eq_some_iff.1 g0).1 (by omega)).trans (cell_of g0 1), (hb.off.cell (Array.getElem?_eq_some_iff.1 g0).1 (by omega)).trans (cell_of g0 2), hb⟩
  have HD : Hid (∀ w', Below W.heap.size W w' → w'.cell? ⟨w.heap.size + 1, 0, none⟩ = some (.int .i64 k)) := fun w' hb => (hb.cell (p := ⟨w.heap.size + 1, 0, none⟩) (Array.getElem?_eq_some_iff.1 g1).1).trans (cell_of g1 0)
  have HE : Hid (∀ w', Below W.heap.size W w' → w'.heap[w.heap.size + 1 + 1]? = some (.cells #[.int .u32 0, .int .u32 0] 65 (0, 0))) := fun w' hb => (hb.block _ (Array.getElem?_eq_some_iff.1 g2).1).trans g2
  clear hb0 g0 g1 g2
  unfold dmVal ctVal btVal at *
  go_enter Tryd.func33, Tryd.ntmps33
  go_wp2_with fail
  refine calls_at (HP.out _) (by with_reducible rfl) (by with_reducible rfl) ?_
  rintro e w1 ⟨rfl, hb1⟩
  have k0 := HD.out w1 hb1
  have s1 := HS.out w1 (HR.out.next hb1)
  have HR1 : Hid (Rg2 w W (w.heap.size + 1 + 1) w1) := HR.out.next hb1
  have c1' := s1.1
  have c2' := s1.2.1
  have g2' := HE.out w1 hb1
  have z0 : ∀ i, w1.frozen? ⟨w.heap.size + 1 + 1, i, none⟩ = false := frozen_of g2'
  have y0 : w1.cell? ⟨w.heap.size + 1 + 1, 0, none⟩ = some (.int .u32 0) := cell_of g2' 0
  have y1 : w1.cell? ⟨w.heap.size + 1 + 1, 1, none⟩ = some (.int .u32 0) := cell_of g2' 1
  have HG2 : Hid (w1.heap[w.heap.size + 1 + 1]? = some (.cells #[.int .u32 0, .int .u32 0] 65 (0, 0))) := g2'
  clear hb1 s1 g2' hW c0 c1 c2 d2
  by_cases hk1 : k = 1
  · subst hk1
    go_wp2_with fail
    clear y0 y1 z0
    have HL : Hid (∀ w', Calls Tryd.prog 46 #[btVal a b, btVal (fWd q 0) (fWd q 1)] w' fun e w2 => e = .returned (btVal (bits .and .u32 a (fWd q 0)) (bits .and .u32 b (fWd q 1))) ∧ Below w'.heap.size w' w2) := fun w' => and_any _ _ _ _ w'
    unfold btVal at HL
    go_region_held3 (fun w' => w'.cell? ⟨w.heap.size, 1, none⟩ = some (.int .u32 a) ∧ w'.cell? ⟨w.heap.size, 2, none⟩ = some (.int .u32 b) ∧ Rg2 w W (w.heap.size + 1 + 1) w')
      (first | exact HS.out _ (HR1.out.next (Below.refl _ _).drew) | exact HS.out _ (Rg2.next (And.right (And.right (by assumption))) (by assumption)) | exact HS.out _ (Rg2.set (And.right (And.right (by assumption))) _ _) | assumption)
      (first
        | (go_at_call 40; refine calls_at (HF.out _) (by with_reducible rfl) (by with_reducible rfl) ?_; rintro e w2 ⟨rfl, hb2⟩)
        | (go_at_call 46; refine calls_at (HL.out _) (by with_reducible rfl) (by with_reducible rfl) ?_; rintro e w3 ⟨rfl, hb3⟩; (have hR3 := Rg2.next (And.right (And.right (by assumption))) hb3); obtain ⟨r0, r1, hr0, hr1, hz⟩ := hR3.cells; (have HR3 : Hid (Rg2 w W (w.heap.size + 1 + 1) w3) := hR3); clear hR3))
    obtain ⟨x0, x1, hx⟩ := HR3.out.blk
    have HX : Hid (w3.heap[w.heap.size + 1 + 1]? = some (.cells #[x0, x1] 65 (0, 0))) := hx
    clear hx
    go_wp2_with fail
    exact bodyPost_ret (v := btVal (lWd q 1 a 0) (lWd q 1 b 1)) (results_cell_row Tryd.results33 _ _ (w.heap.size + 1 + 1) 65 #[.int .u32 (lWd q 1 a 0), .int .u32 (lWd q 1 b 1)] (0, 0) _ rfl (set2 HX.out _ _) und65 rfl info65) rfl ⟨rfl, (HR3.out.set _ _).below⟩
  by_cases hk2 : k = 2
  · subst hk2
    go_wp2_with fail
    clear y0 y1 z0
    have HL : Hid (∀ w', Calls Tryd.prog 41 #[btVal a b, btVal (fWd (q + 1) 0) (fWd (q + 1) 1)] w' fun e w2 => e = .returned (btVal (bits .andNot .u32 a (fWd (q + 1) 0)) (bits .andNot .u32 b (fWd (q + 1) 1))) ∧ Below w'.heap.size w' w2) := fun w' => less_any _ _ _ _ w'
    unfold btVal at HL
    go_region_held3 (fun w' => w'.cell? ⟨w.heap.size, 1, none⟩ = some (.int .u32 a) ∧ w'.cell? ⟨w.heap.size, 2, none⟩ = some (.int .u32 b) ∧ Rg2 w W (w.heap.size + 1 + 1) w')
      (first | exact HS.out _ (HR1.out.next (Below.refl _ _).drew) | exact HS.out _ (Rg2.next (And.right (And.right (by assumption))) (by assumption)) | exact HS.out _ (Rg2.set (And.right (And.right (by assumption))) _ _) | assumption)
      (first
        | (go_at_call 40; refine calls_at (HG.out _) (by with_reducible rfl) (by with_reducible rfl) ?_; rintro e w2 ⟨rfl, hb2⟩)
        | (go_at_call 41; refine calls_at (HL.out _) (by with_reducible rfl) (by with_reducible rfl) ?_; rintro e w3 ⟨rfl, hb3⟩; (have hR3 := Rg2.next (And.right (And.right (by assumption))) hb3); obtain ⟨r0, r1, hr0, hr1, hz⟩ := hR3.cells; (have HR3 : Hid (Rg2 w W (w.heap.size + 1 + 1) w3) := hR3); clear hR3))
    obtain ⟨x0, x1, hx⟩ := HR3.out.blk
    have HX : Hid (w3.heap[w.heap.size + 1 + 1]? = some (.cells #[x0, x1] 65 (0, 0))) := hx
    clear hx
    go_wp2_with fail
    exact bodyPost_ret (v := btVal (lWd q 2 a 0) (lWd q 2 b 1)) (results_cell_row Tryd.results33 _ _ (w.heap.size + 1 + 1) 65 #[.int .u32 (lWd q 2 a 0), .int .u32 (lWd q 2 b 1)] (0, 0) _ rfl (set2 HX.out _ _) und65 rfl info65) rfl ⟨rfl, (HR3.out.set _ _).below⟩
  by_cases hk3 : k = 3
  · subst hk3
    go_wp2_with fail
    clear y0 y1 z0
    have HL : Hid (∀ w', Calls Tryd.prog 41 #[btVal a b, btVal (oWd q 0) (oWd q 1)] w' fun e w2 => e = .returned (btVal (bits .andNot .u32 a (oWd q 0)) (bits .andNot .u32 b (oWd q 1))) ∧ Below w'.heap.size w' w2) := fun w' => less_any _ _ _ _ w'
    unfold btVal at HL
    go_region_held3 (fun w' => w'.cell? ⟨w.heap.size, 1, none⟩ = some (.int .u32 a) ∧ w'.cell? ⟨w.heap.size, 2, none⟩ = some (.int .u32 b) ∧ Rg2 w W (w.heap.size + 1 + 1) w')
      (first | exact HS.out _ (HR1.out.next (Below.refl _ _).drew) | exact HS.out _ (Rg2.next (And.right (And.right (by assumption))) (by assumption)) | exact HS.out _ (Rg2.set (And.right (And.right (by assumption))) _ _) | assumption)
      (first
        | (go_at_call 47; refine calls_at (HO.out _) (by with_reducible rfl) (by with_reducible rfl) ?_; rintro e w2 ⟨rfl, hb2⟩)
        | (go_at_call 41; refine calls_at (HL.out _) (by with_reducible rfl) (by with_reducible rfl) ?_; rintro e w3 ⟨rfl, hb3⟩; (have hR3 := Rg2.next (And.right (And.right (by assumption))) hb3); obtain ⟨r0, r1, hr0, hr1, hz⟩ := hR3.cells; (have HR3 : Hid (Rg2 w W (w.heap.size + 1 + 1) w3) := hR3); clear hR3))
    obtain ⟨x0, x1, hx⟩ := HR3.out.blk
    have HX : Hid (w3.heap[w.heap.size + 1 + 1]? = some (.cells #[x0, x1] 65 (0, 0))) := hx
    clear hx
    go_wp2_with fail
    exact bodyPost_ret (v := btVal (lWd q 3 a 0) (lWd q 3 b 1)) (results_cell_row Tryd.results33 _ _ (w.heap.size + 1 + 1) 65 #[.int .u32 (lWd q 3 a 0), .int .u32 (lWd q 3 b 1)] (0, 0) _ rfl (set2 HX.out _ _) und65 rfl info65) rfl ⟨rfl, (HR3.out.set _ _).below⟩
  have e1' : (k == 1) = false := by simp [hk1]
  have e2' : (k == 2) = false := by simp [hk2]
  have e3' : (k == 3) = false := by simp [hk3]
  have HV : Hid (∀ x i, lWd q k x i = x) := fun x i => by unfold lWd; rw [if_neg hk1, if_neg hk2, if_neg hk3]
  clear hk1 hk2 hk3
  go_wp2_with fail
  refine bodyPost_ret (v := btVal (lWd q k a 0) (lWd q k b 1)) ?_ rfl ⟨rfl, (HR1.out.set _ _).below⟩
  rw [HV.out a 0, HV.out b 1]
  exact results_cell_row Tryd.results33 _ _ (w.heap.size + 1 + 1) 65 #[.int .u32 a, .int .u32 b] (0, 0) _ rfl (set2 HG2.out _ _) und65 rfl info65
end Go.Proofs.YtakdboddbgihpaaDoor
