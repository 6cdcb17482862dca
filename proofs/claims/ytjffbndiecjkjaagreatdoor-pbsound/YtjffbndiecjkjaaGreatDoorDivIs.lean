/-
  Put together: DivInts, DivUpInts.
-/
import Derived.Test.YtjffbndiecjkjaaGreatDoorSmall
import Derived.Test.YtjffbndiecjkjaaGreatDoorPlus
namespace Go.Proofs.YtjffbndiecjkjaaGreatDoor
open Go.RowKit

/-- The quotient, rounded up. -/
def divUpI (a b : Int) : Int := -((-a) / b)

/-- It is the one number between. -/
theorem divUpI_of {a b q : Int} (hb : 0 < b) (h1 : b * (q - 1) < a) (h2 : a ≤ b * q) : divUpI a b = q := by
  unfold divUpI
  have h : (-a) / b = -q := by
    rw [Int.ediv_eq_iff_of_pos hb]
    rw [Int.mul_sub, Int.mul_one] at h1
    constructor
    · rw [Int.neg_mul, Int.mul_comm q b]; omega
    · rw [Int.neg_mul, Int.mul_comm q b]; omega
  rw [h]; omega
theorem divUpI_lo (a : Int) {b : Int} (hb : 0 < b) : b * (divUpI a b - 1) < a := by
  unfold divUpI
  have h := Int.lt_ediv_add_one_mul_self (-a) hb
  rw [Int.add_mul, Int.mul_comm _ b] at h
  rw [Int.mul_sub, Int.mul_neg]
  omega
theorem divUpI_hi (a : Int) {b : Int} (hb : 0 < b) : a ≤ b * divUpI a b := by
  unfold divUpI
  have h := Int.ediv_mul_le (-a) (show b ≠ 0 by omega)
  rw [Int.mul_comm _ b] at h
  rw [Int.mul_neg]
  omega
theorem divUpI_pos {a b : Int} (hb : 0 < b) (h : 0 < a % b) : a / b + 1 = divUpI a b := by
  symm
  have h1 := Int.mul_ediv_add_emod a b
  have h2 := Int.emod_lt_of_pos a hb
  refine divUpI_of hb ?_ ?_
  · rw [Int.add_sub_cancel]; omega
  · rw [Int.mul_add]; omega
theorem divUpI_zero {a b : Int} (hb : 0 < b) (h : a % b = 0) : a / b = divUpI a b := by
  symm
  have h1 := Int.mul_ediv_add_emod a b
  refine divUpI_of hb ?_ ?_
  · rw [Int.mul_sub]; omega
  · omega
theorem divUpI_neg {a b : Int} (h : a ≤ 0) : a.tdiv b = divUpI a b := by
  unfold divUpI
  obtain ⟨c, rfl⟩ : ∃ c, a = -c := ⟨-a, by omega⟩
  rw [Int.neg_tdiv, Int.tdiv_eq_ediv_of_nonneg (by omega), Int.neg_neg]
theorem divUpI_bound {a b : Int} (hb : 0 < b) : (0 ≤ a → 0 ≤ divUpI a b ∧ divUpI a b ≤ a) ∧ (a ≤ 0 → a ≤ divUpI a b ∧ divUpI a b ≤ 0) := by
  unfold divUpI
  constructor
  · intro ha
    have h1 : (-a) / b ≤ 0 := by
      rw [show (0 : Int) = 0 / b from (Int.zero_ediv b).symm]; exact Int.ediv_le_ediv hb (by omega)
    have h2 : -a ≤ (-a) / b := by
      rw [Int.le_ediv_iff_mul_le hb]
      have := Int.mul_le_mul_of_nonneg_left (show (1 : Int) ≤ b by omega) ha
      rw [Int.neg_mul]; omega
    omega
  · intro ha
    have h1 : 0 ≤ (-a) / b := Int.ediv_nonneg (by omega) (by omega)
    have h2 : (-a) / b ≤ -a := Int.ediv_le_self b (by omega)
    omega

set_option maxHeartbeats 400000 in
theorem divUpSmall_any (a b : Int) (w : World) (ha1 : -9223372036854775808 ≤ a) (ha2 : a ≤ 9223372036854775807) (hb1 : 0 < b) (hb2 : b ≤ 9223372036854775807) :
    Calls Tryz.prog 86 #[.int .i64 a, .int .i64 b] w fun e w' => e = .returned (.int .i64 (divUpI a b)) ∧ w' = w := by
  go_enter Tryz.func86, Tryz.ntmps86
  go_wp2
  · rename_i h1 h2
    go_ret
    refine ⟨ret_int ?_, rfl⟩
    have h3 := divUpI_pos hb1 h2
    have h4 := (divUpI_bound (a := a) hb1).1 (by omega)
    rw [h3]; unfold wrap64; omega
  · rename_i h1 h2
    go_ret
    exact ⟨ret_int (divUpI_zero hb1 (by have := Int.emod_nonneg a (show b ≠ 0 by omega); omega)), rfl⟩
  · rename_i h1
    go_ret
    exact ⟨ret_int (divUpI_neg h1), rfl⟩
end Go.Proofs.YtjffbndiecjkjaaGreatDoor

namespace Go.Proofs.YtjffbndiecjkjaaGreatDoor
open Go.RowKit
open Bn (limbs)

set_option maxRecDepth 100000 in
set_option maxHeartbeats 1000000 in
/-- DivUp, by a number below 1. -/
theorem divUp_none (x y : Int) (va vb : Value) (w : World) (ha : BigAt w va x) (hb : BigAt w vb y) (hy : y < 1) :
    Calls Tryz.prog 60 #[va, vb] w fun e w' => e = .returned (.tuple #[.agg #[.int .i64 0, .pointer none], .int .i64 11]) ∧ Below w.heap.size w w' := by
  have HB : Hid (BigAt w vb y) := hb
  obtain ⟨n1, q1, rfl⟩ := ha.shape
  obtain ⟨n2, q2, rfl⟩ := hb.shape
  have hs : y.sign < 1 := by
    rcases Int.lt_trichotomy y 0 with h | h | h
    · rw [Int.sign_eq_neg_one_of_neg h]; decide
    · rw [h]; decide
    · omega
  clear ha hb hy
  go_enter Tryz.func60, Tryz.ntmps60
  go_wp2_with fail
  generalize hW : ((w.alloc (.cells #[.int .i64 n1, .pointer q1] 33)).alloc (.cells #[.int .i64 n2, .pointer q2] 33)).alloc (.cells #[.int .i64 0, .pointer none] 33) = W
  obtain ⟨hA, hB, hR, hBW, hsz⟩ := three_boxes w n1 n2 q1 q2 hW
  clear hW
  refine (sign_big y _ _ (HB.out.below hBW)).mono ?_
  rintro e w1 ⟨rfl, hb1⟩
  generalize y.sign = sy at *
  have hR3 := (hb1.block (w.heap.size + 1 + 1) (by omega)).trans hR
  obtain ⟨r0, r1, r2, r3⟩ := box_facts hR3
  obtain ⟨m0, m1⟩ := box_set hR3 (.int .i64 0) (.pointer none)
  go_wp2
  exact bodyPost_ret (v := .tuple #[.agg #[.int .i64 0, .pointer none], .int .i64 11]) (by simp [results, Tryz.results60, go_sem, m0, m1]) rfl ⟨rfl, ((hBW.trans (hb1.mono hBW.size)).setCell (p := ⟨w.heap.size + 1 + 1, 0, none⟩) (by show w.heap.size ≤ w.heap.size + 1 + 1; omega) _).setCell (p := ⟨w.heap.size + 1 + 1, 1, none⟩) (by show w.heap.size ≤ w.heap.size + 1 + 1; omega) _⟩

set_option maxRecDepth 100000 in
set_option maxHeartbeats 1000000 in
/-- DivUp, of two ints. -/
theorem divUp_ints (x y : Int) (w : World) (hfx : Fits x) (hfy : Fits y) (hy : 0 < y) :
    Calls Tryz.prog 60 #[.agg #[.int .i64 x, .pointer none], .agg #[.int .i64 y, .pointer none]] w fun e w' => e = .returned (.tuple #[.agg #[.int .i64 (divUpI x y), .pointer none], .int .i64 0]) ∧ Below w.heap.size w w' := by
  have hs : y.sign = 1 := Int.sign_eq_one_of_pos hy
  have HD : Hid (∀ w, Calls Tryz.prog 86 #[.int .i64 x, .int .i64 y] w fun e w' => e = .returned (.int .i64 (divUpI x y)) ∧ w' = w) := fun w => divUpSmall_any x y w hfx.1 hfx.2 hy hfy.2
  have HB : Hid (∀ w, BigAt w (.agg #[.int .i64 y, .pointer none]) y) := fun w => .inl ⟨hfy, rfl⟩
  generalize divUpI x y = d at *
  clear hfx hfy
  go_enter Tryz.func60, Tryz.ntmps60
  go_wp2_with fail
  generalize hW : ((w.alloc (.cells #[.int .i64 x, .pointer none] 33)).alloc (.cells #[.int .i64 y, .pointer none] 33)).alloc (.cells #[.int .i64 0, .pointer none] 33) = W
  obtain ⟨hA, hB, hR, hBW, hsz⟩ := three_boxes w x y none none hW
  clear hW
  refine (sign_big y _ _ (HB.out _)).mono ?_
  rintro e w1 ⟨rfl, hb1⟩
  rw [hs]
  have hA3 := (hb1.block w.heap.size (by omega)).trans hA
  have hB3 := (hb1.block (w.heap.size + 1) (by omega)).trans hB
  obtain ⟨a0, a1, _, _⟩ := box_facts hA3
  obtain ⟨b0, b1, _, _⟩ := box_facts hB3
  go_wp2_with (first
    | (go_at_call 86; refine (HD.out _).mono ?_; rintro e w' ⟨rfl, rfl⟩)
    | (go_at_call 33; refine (of_any _ _).mono ?_; rintro e w2 ⟨rfl, hb2⟩; have hR3 := (hb2.block (w.heap.size + 1 + 1) (by have := hb1.size; omega)).trans ((hb1.block (w.heap.size + 1 + 1) (by omega)).trans hR); obtain ⟨r0, r1, r2, r3⟩ := box_facts hR3; obtain ⟨m0, m1⟩ := box_set hR3 (.int .i64 d) (.pointer none)))
  have hb12 : Below w.heap.size w w2 := (hBW.trans (hb1.mono hBW.size)).trans (hb2.mono (Nat.le_trans hBW.size hb1.size))
  exact bodyPost_ret (v := .tuple #[.agg #[.int .i64 d, .pointer none], .int .i64 0]) (by simp [results, Tryz.results60, go_sem, m0, m1]) rfl ⟨rfl, (hb12.setCell (p := ⟨w.heap.size + 1 + 1, 0, none⟩) (by show w.heap.size ≤ w.heap.size + 1 + 1; omega) _).setCell (p := ⟨w.heap.size + 1 + 1, 1, none⟩) (by show w.heap.size ≤ w.heap.size + 1 + 1; omega) _⟩
end Go.Proofs.YtjffbndiecjkjaaGreatDoor
