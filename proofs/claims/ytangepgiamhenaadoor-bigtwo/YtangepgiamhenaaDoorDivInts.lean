/-
  Package big: divUpSmall.
-/
import Derived.Test.YtangepgiamhenaaDoorSmall
namespace Go.Proofs.YtangepgiamhenaaDoor
open Go.RowKit

/-- The quotient, rounded up. -/
def divUpI (a b : Int) : Int := -((-a) / b)

/-- It is the one number between. -/
theorem divUpI_of {a b q : Int} (hb : 0 < b) (h1 : b * (q - 1) < a) (h2 : a ≤ b * q) : divUpI a b = q := by
  unfold divUpI
  have h : (-a) / b = -q := by
    rw [Int.ediv_eq_iff_of_pos hb]
    rw [Int.mul_sub, Int.mul_one] at h1
    constructor
    · rw [Int.neg_mul, Int.mul_comm q b]; omega
    · rw [Int.neg_mul, Int.mul_comm q b]; omega
  rw [h]; omega
theorem divUpI_lo (a : Int) {b : Int} (hb : 0 < b) : b * (divUpI a b - 1) < a := by
  unfold divUpI
  have h := Int.lt_ediv_add_one_mul_self (-a) hb
  rw [Int.add_mul, Int.mul_comm _ b] at h
  rw [Int.mul_sub, Int.mul_neg]
  omega
theorem divUpI_hi (a : Int) {b : Int} (hb : 0 < b) : a ≤ b * divUpI a b := by
  unfold divUpI
  have h := Int.ediv_mul_le (-a) (show b ≠ 0 by omega)
  rw [Int.mul_comm _ b] at h
  rw [Int.mul_neg]
  omega
theorem divUpI_pos {a b : Int} (hb : 0 < b) (h : 0 < a % b) : a / b + 1 = divUpI a b := by
  symm
  have h1 := Int.mul_ediv_add_emod a b
  have h2 := Int.emod_lt_of_pos a hb
  refine divUpI_of hb ?_ ?_
  · rw [Int.add_sub_cancel]; omega
  · rw [Int.mul_add]; omega
theorem divUpI_zero {a b : Int} (hb : 0 < b) (h : a % b = 0) : a / b = divUpI a b := by
  symm
  have h1 := Int.mul_ediv_add_emod a b
  refine divUpI_of hb ?_ ?_
  · rw [Int.mul_sub]; omega
  · omega
theorem divUpI_neg {a b : Int} (h : a ≤ 0) : a.tdiv b = divUpI a b := by
  unfold divUpI
  obtain ⟨c, rfl⟩ : ∃ c, a = -c := ⟨-a, by omega⟩
  rw [Int.neg_tdiv, Int.tdiv_eq_ediv_of_nonneg (by omega), Int.neg_neg]
theorem divUpI_bound {a b : Int} (hb : 0 < b) : (0 ≤ a → 0 ≤ divUpI a b ∧ divUpI a b ≤ a) ∧ (a ≤ 0 → a ≤ divUpI a b ∧ divUpI a b ≤ 0) := by
  unfold divUpI
  constructor
  · intro ha
    have h1 : (-a) / b ≤ 0 := by
      rw [show (0 : Int) = 0 / b from (Int.zero_ediv b).symm]; exact Int.ediv_le_ediv hb (by omega)
    have h2 : -a ≤ (-a) / b := by
      rw [Int.le_ediv_iff_mul_le hb]
      have := Int.mul_le_mul_of_nonneg_left (show (1 : Int) ≤ b by omega) ha
      rw [Int.neg_mul]; omega
    omega
  · intro ha
    have h1 : 0 ≤ (-a) / b := Int.ediv_nonneg (by omega) (by omega)
    have h2 : (-a) / b ≤ -a := Int.ediv_le_self b (by omega)
    omega

set_option maxHeartbeats 400000 in
theorem divUpSmall_any (a b : Int) (w : World) (ha1 : -9223372036854775808 ≤ a) (ha2 : a ≤ 9223372036854775807) (hb1 : 0 < b) (hb2 : b ≤ 9223372036854775807) :
    Calls Tryd.prog 60 #[.int .i64 a, .int .i64 b] w fun e w' => e = .returned (.int .i64 (divUpI a b)) ∧ w' = w := by
  go_enter Tryd.func60, Tryd.ntmps60
  go_wp2
  · rename_i h1 h2
    go_ret
    refine ⟨ret_int ?_, rfl⟩
    have h3 := divUpI_pos hb1 h2
    have h4 := (divUpI_bound (a := a) hb1).1 (by omega)
    rw [h3]; unfold wrap64; omega
  · rename_i h1 h2
    go_ret
    exact ⟨ret_int (divUpI_zero hb1 (by have := Int.emod_nonneg a (show b ≠ 0 by omega); omega)), rfl⟩
  · rename_i h1
    go_ret
    exact ⟨ret_int (divUpI_neg h1), rfl⟩
end Go.Proofs.YtangepgiamhenaaDoor
