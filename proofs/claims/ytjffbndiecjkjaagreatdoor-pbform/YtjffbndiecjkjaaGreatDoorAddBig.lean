/-
  Package big: Add, Sub, of every two numbers.
-/
import Derived.Test.YtjffbndiecjkjaaGreatDoorPlus
namespace Go.Proofs.YtjffbndiecjkjaaGreatDoor
open Go.RowKit
open Bn (limbs)

set_option maxRecDepth 100000 in
set_option maxHeartbeats 1000000 in
/-- Add of two ints whose sum is one. -/
theorem add_small (x y s : Int) (w : World) (HF : Hid (Fits s)) (hw : wrap64 (x + y) = s) (hc : (decide (x < s) == decide (0 < y)) = true) :
    Calls Tryz.prog 29 #[.agg #[.int .i64 x, .pointer none], .agg #[.int .i64 y, .pointer none]] w fun e w' => ∃ r, e = .returned r ∧ BigAt w' r s ∧ Below w.heap.size w w' := by
  go_enter Tryz.func29, Tryz.ntmps29
  go_wp2_with fail
  generalize hW : ((w.alloc (.cells #[.int .i64 x, .pointer none] 33)).alloc (.cells #[.int .i64 y, .pointer none] 33)).alloc (.cells #[.int .i64 0, .pointer none] 33) = W
  obtain ⟨hA, hB, hR, hBW, hsz⟩ := three_boxes w x y none none hW
  clear hW
  refine (of_any _ _).mono ?_
  rintro e w1 ⟨rfl, hb1⟩
  have hR3 := (hb1.block (w.heap.size + 1 + 1) (by omega)).trans hR
  obtain ⟨r0, r1, r2, r3⟩ := box_facts hR3
  obtain ⟨m0, m1⟩ := box_set hR3 (.int .i64 s) (.pointer none)
  go_wp2
  exact bodyPost_ret (v := .agg #[.int .i64 s, .pointer none]) (by simp [results, Tryz.results29, go_sem, m0, m1]) rfl ⟨_, rfl, .inl ⟨HF.out, rfl⟩, ((hBW.trans (hb1.mono hBW.size)).setCell (p := ⟨w.heap.size + 1 + 1, 0, none⟩) (by show w.heap.size ≤ w.heap.size + 1 + 1; omega) _).setCell (p := ⟨w.heap.size + 1 + 1, 1, none⟩) (by show w.heap.size ≤ w.heap.size + 1 + 1; omega) _⟩

/-- Add. -/
theorem add_big (x y : Int) (va vb : Value) (w : World) (ha : BigAt w va x) (hb : BigAt w vb y) (hx : (limbs x.natAbs).length ≤ 1000000) (hy : (limbs y.natAbs).length ≤ 1000000) :
    Calls Tryz.prog 29 #[va, vb] w fun e w' => ∃ r, e = .returned r ∧ BigAt w' r (x + y) ∧ Below w.heap.size w w' := by
  have HA : Hid (BigAt w va x) := ha
  have HB : Hid (BigAt w vb y) := hb
  rcases ha with ⟨hfx, rfl⟩ | ⟨_, p, s, rfl, _⟩
  · rcases hb with ⟨hfy, rfl⟩ | ⟨_, p, s, rfl, _⟩
    · unfold Fits at hfx hfy
      by_cases hf : Fits (x + y)
      · have hf' := hf
        unfold Fits at hf'
        refine add_small x y (x + y) w hf (by unfold wrap64; omega) ?_
        by_cases h : 0 < y
        · rw [decide_eq_true h, decide_eq_true (show x < x + y by omega)]; rfl
        · rw [decide_eq_false h, decide_eq_false (show ¬ x < x + y by omega)]; rfl
      · unfold Fits at hf
        by_cases h : 0 < y
        · exact add_overP x y x y (x + y - 18446744073709551616) w HA HB (by unfold wrap64; omega) (by simp; omega) (by simp; omega) hx hy
        · exact add_overN x y x y (x + y + 18446744073709551616) w HA HB (by unfold wrap64; omega) (by simp; omega) (by simp; omega) hx hy
    · exact add_wideB x y _ _ _ w HA HB hx hy
  · obtain ⟨n2, q2, rfl⟩ := hb.shape
    exact add_wideA x y _ _ _ _ w HA HB hx hy

end Go.Proofs.YtjffbndiecjkjaaGreatDoor
