/-
  Put together: AddBig, SubBig.
-/
import Derived.Test.YtjffbndiecjkjaaGreatDoorPlus
namespace Go.Proofs.YtjffbndiecjkjaaGreatDoor
open Go.RowKit
open Bn (limbs)

set_option maxRecDepth 100000 in
set_option maxHeartbeats 1000000 in
/-- Add of two ints whose sum is one. -/
theorem add_small (x y s : Int) (w : World) (HF : Hid (Fits s)) (hw : wrap64 (x + y) = s) (hc : (decide (x < s) == decide (0 < y)) = true) :
    Calls Tryz.prog 29 #[.agg #[.int .i64 x, .pointer none], .agg #[.int .i64 y, .pointer none]] w fun e w' => ∃ r, e = .returned r ∧ BigAt w' r s ∧ Below w.heap.size w w' := by
  go_enter Tryz.func29, Tryz.ntmps29
  go_wp2_with fail
  generalize hW : ((w.alloc (.cells #[.int .i64 x, .pointer none] 33)).alloc (.cells #[.int .i64 y, .pointer none] 33)).alloc (.cells #[.int .i64 0, .pointer none] 33) = W
  obtain ⟨hA, hB, hR, hBW, hsz⟩ := three_boxes w x y none none hW
  clear hW
  refine (of_any _ _).mono ?_
  rintro e w1 ⟨rfl, hb1⟩
  have hR3 := (hb1.block (w.heap.size + 1 + 1) (by omega)).trans hR
  obtain ⟨r0, r1, r2, r3⟩ := box_facts hR3
  obtain ⟨m0, m1⟩ := box_set hR3 (.int .i64 s) (.pointer none)
  go_wp2
  exact bodyPost_ret (v := .agg #[.int .i64 s, .pointer none]) (by simp [results, Tryz.results29, go_sem, m0, m1]) rfl ⟨_, rfl, .inl ⟨HF.out, rfl⟩, ((hBW.trans (hb1.mono hBW.size)).setCell (p := ⟨w.heap.size + 1 + 1, 0, none⟩) (by show w.heap.size ≤ w.heap.size + 1 + 1; omega) _).setCell (p := ⟨w.heap.size + 1 + 1, 1, none⟩) (by show w.heap.size ≤ w.heap.size + 1 + 1; omega) _⟩

/-- Add. -/
theorem add_big (x y : Int) (va vb : Value) (w : World) (ha : BigAt w va x) (hb : BigAt w vb y) (hx : (limbs x.natAbs).length ≤ 1000000) (hy : (limbs y.natAbs).length ≤ 1000000) :
    Calls Tryz.prog 29 #[va, vb] w fun e w' => ∃ r, e = .returned r ∧ BigAt w' r (x + y) ∧ Below w.heap.size w w' := by
  have HA : Hid (BigAt w va x) := ha
  have HB : Hid (BigAt w vb y) := hb
  rcases ha with ⟨hfx, rfl⟩ | ⟨_, p, s, rfl, _⟩
  · rcases hb with ⟨hfy, rfl⟩ | ⟨_, p, s, rfl, _⟩
    · unfold Fits at hfx hfy
      by_cases hf : Fits (x + y)
      · have hf' := hf
        unfold Fits at hf'
        refine add_small x y (x + y) w hf (by unfold wrap64; omega) ?_
        by_cases h : 0 < y
        · rw [decide_eq_true h, decide_eq_true (show x < x + y by omega)]; rfl
        · rw [decide_eq_false h, decide_eq_false (show ¬ x < x + y by omega)]; rfl
      · unfold Fits at hf
        by_cases h : 0 < y
        · exact add_overP x y x y (x + y - 18446744073709551616) w HA HB (by unfold wrap64; omega) (by simp; omega) (by simp; omega) hx hy
        · exact add_overN x y x y (x + y + 18446744073709551616) w HA HB (by unfold wrap64; omega) (by simp; omega) (by simp; omega) hx hy
    · exact add_wideB x y _ _ _ w HA HB hx hy
  · obtain ⟨n2, q2, rfl⟩ := hb.shape
    exact add_wideA x y _ _ _ _ w HA HB hx hy

end Go.Proofs.YtjffbndiecjkjaaGreatDoor

namespace Go.Proofs.YtjffbndiecjkjaaGreatDoor
open Go.RowKit
open Bn (limbs)
attribute [local go_sem ↓] Go.wp_at_zero Go.wp_at_succ

set_option maxRecDepth 100000 in
set_option maxHeartbeats 1000000 in
/-- Sub. -/
theorem sub_big (x y : Int) (va vb : Value) (w : World) (ha : BigAt w va x) (hb : BigAt w vb y) (hx : (limbs x.natAbs).length ≤ 1000000) (hy : (limbs y.natAbs).length ≤ 1000000) :
    Calls Tryz.prog 56 #[va, vb] w fun e w' => ∃ r, e = .returned r ∧ BigAt w' r (x - y) ∧ Below w.heap.size w w' := by
  have HA : Hid (BigAt w va x) := ha
  have HB : Hid (BigAt w vb y) := hb
  obtain ⟨n1, q1, rfl⟩ := ha.shape
  obtain ⟨n2, q2, rfl⟩ := hb.shape
  have HY : Hid ((limbs (-y).natAbs).length ≤ 1000000) := by show _ ≤ _; rw [Int.natAbs_neg]; exact hy
  clear ha hb
  go_enter Tryz.func56, Tryz.ntmps56
  go_wp2_with fail
  generalize hW : ((w.alloc (.cells #[.int .i64 n1, .pointer q1] 33)).alloc (.cells #[.int .i64 n2, .pointer q2] 33)).alloc (.cells #[.int .i64 0, .pointer none] 33) = W
  obtain ⟨hA, hB, hR, hBW, hsz⟩ := three_boxes w n1 n2 q1 q2 hW
  have HA' : Hid (BigAt W (.agg #[.int .i64 n1, .pointer q1]) x) := HA.out.below hBW
  have HB' : Hid (BigAt W (.agg #[.int .i64 n2, .pointer q2]) y) := HB.out.below hBW
  obtain ⟨a0, a1, _, _⟩ := box_facts hA
  obtain ⟨b0, b1, _, _⟩ := box_facts hB
  have HC : Hid (Calls Tryz.prog 82 #[.agg #[.int .i64 n2, .pointer q2]] W.drew fun e w' => ∃ r, e = .returned r ∧ BigAt w' r (-y) ∧ Below W.heap.size W w') :=
    (neg_big y _ W.drew (show BigAt W.drew _ y from HB'.out)).mono fun e w' ⟨r, h1, h2, h3⟩ => ⟨r, h1, h2, (Below.refl W.heap.size W).drew.trans h3⟩
  clear hW
  go_region_with (first
    | (go_at_call 82; refine calls_at HC.out (by with_reducible rfl) (by with_reducible rfl) ?_; rintro e w1 ⟨nv, rfl, hN, hb1⟩; obtain ⟨n3, q3, hnv⟩ := hN.shape; subst hnv; have hA1 := (hb1.block w.heap.size (by omega)).trans hA; obtain ⟨a01, a11, _, _⟩ := box_facts hA1)
    | (go_at_call 29; refine calls_at (add_big x (-y) _ _ _ (HA'.out.below hb1) hN hx HY.out) (by with_reducible rfl) (by with_reducible rfl) ?_; rintro e w2 ⟨r, rfl, hr, hb2⟩; obtain ⟨y3, q4, hr3⟩ := hr.shape; subst hr3; have hb12 : Below W.heap.size W w2 := hb1.trans (hb2.mono hb1.size); have hR2 := (hb12.block (w.heap.size + 1 + 1) (by omega)).trans hR; obtain ⟨r0, r1, r2, r3⟩ := box_facts hR2))
  all_goals
    obtain ⟨m0, m1⟩ := box_set hR2 (.int .i64 y3) (.pointer q4)
    rw [← Int.sub_eq_add_neg] at hr
    go_wp2
    exact bodyPost_ret (v := .agg #[.int .i64 y3, .pointer q4]) (by simp [results, Tryz.results56, go_sem, m0, m1]) rfl ⟨_, rfl, hr.setBox hR2 _ _, ((hBW.trans (hb12.mono hBW.size)).setCell (p := ⟨w.heap.size + 1 + 1, 0, none⟩) (by show w.heap.size ≤ w.heap.size + 1 + 1; omega) _).setCell (p := ⟨w.heap.size + 1 + 1, 1, none⟩) (by show w.heap.size ≤ w.heap.size + 1 + 1; omega) _⟩

end Go.Proofs.YtjffbndiecjkjaaGreatDoor
