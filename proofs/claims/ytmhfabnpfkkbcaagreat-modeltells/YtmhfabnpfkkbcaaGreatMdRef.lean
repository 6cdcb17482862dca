/-
  The small functions of the document's side.
-/
import Derived.Test.YtmhfabnpfkkbcaaGreatMdSmall
namespace Go.Proofs.YtmhfabnpfkkbcaaGreat
open Go.RowKit
set_option maxHeartbeats 400000 in
theorem place_any (x n : Int) (w : World) : Calls Tryz.prog 114 #[.int .i64 x, .int .i64 n] w fun e w' => e = .returned (.bool (Md.plB n x)) ∧ w' = w := by
  go_enter Tryz.func114, Tryz.ntmps114
  go_wp2
  all_goals (go_ret; refine ⟨ret_bool ?_, rfl⟩; unfold Md.plB; symm; simp; try omega)
set_option maxHeartbeats 400000 in
theorem lists_any (k : Int) (w : World) : Calls Tryz.prog 86 #[.int .i64 k] w fun e w' => e = .returned (.bool (Md.fXs k)) ∧ w' = w := by
  go_enter Tryz.func86, Tryz.ntmps86
  go_wp2
  all_goals (go_ret; refine ⟨ret_bool ?_, rfl⟩; simp [Md.fXs, *])
set_option maxHeartbeats 400000 in
theorem linear_any (op s k : Int) (w : World) (h : 1 ≤ op ∧ op ≤ 3) : Calls Tryz.prog 72 #[.int .i64 op, .int .i64 s, .int .i64 k] w fun e w' => e = .returned (.bool (Md.cmpB op s k)) ∧ w' = w := by
  go_enter Tryz.func72, Tryz.ntmps72
  go_wp2
  all_goals (go_ret; refine ⟨ret_bool ?_, rfl⟩; simp [Md.cmpB, *])
set_option maxHeartbeats 400000 in
theorem size_num (n : Int) (w : World) : Calls Tryz.prog 113 #[.int .i64 n, .int .i64 1000000000] w fun e w' => e = .returned (.bool (Md.numB n)) ∧ w' = w := by
  go_enter Tryz.func113, Tryz.ntmps113
  go_wp2
  all_goals (go_ret; refine ⟨ret_bool ?_, rfl⟩; unfold Md.numB; symm; simp; try omega)
set_option maxHeartbeats 400000 in
theorem size_coef (n : Int) (w : World) : Calls Tryz.prog 113 #[.int .i64 n, .int .i64 1000000] w fun e w' => e = .returned (.bool (decide (-1000000 ≤ n ∧ n ≤ 1000000))) ∧ w' = w := by
  go_enter Tryz.func113, Tryz.ntmps113
  go_wp2
  all_goals (go_ret; refine ⟨ret_bool ?_, rfl⟩; symm; simp; try omega)
set_option maxHeartbeats 400000 in
theorem number_any (n : Int) (w : World) : Calls Tryz.prog 89 #[.int .i64 n] w fun e w' => e = .returned (.bool (Md.numB n)) ∧ w' = w := by
  go_enter Tryz.func89, Tryz.ntmps89
  go_wp2_with (go_at_call 113; refine (size_num _ _).mono ?_; rintro e w' ⟨rfl, rfl⟩)
  go_ret
  exact ⟨rfl, rfl⟩
set_option maxHeartbeats 400000 in
theorem coef_any (n : Int) (w : World) : Calls Tryz.prog 90 #[.int .i64 n] w fun e w' => e = .returned (.bool (Md.cfB n)) ∧ w' = w := by
  by_cases h : n = 0
  · subst h
    go_enter Tryz.func90, Tryz.ntmps90
    go_wp2
    go_ret
    exact ⟨rfl, rfl⟩
  · have hb : (n != 0) = true := by simp [h]
    have hd : Md.cfB n = decide (-1000000 ≤ n ∧ n ≤ 1000000) := by unfold Md.cfB; simp [h]
    rw [hd]; clear hd
    go_enter Tryz.func90, Tryz.ntmps90
    go_wp2_with (go_at_call 113; refine (size_coef _ _).mono ?_; rintro e w' ⟨rfl, rfl⟩)
    all_goals (go_ret; exact ⟨ret_bool (by simp), rfl⟩)
set_option maxHeartbeats 400000 in
theorem many_any (n : Nat) (w : World) : Calls Tryz.prog 36 #[.int .i64 (n : Int)] w fun e w' => e = .returned (.bool (Md.fewB n 64)) ∧ w' = w := by
  go_enter Tryz.func36, Tryz.ntmps36
  go_wp2
  all_goals (go_ret; refine ⟨ret_bool ?_, rfl⟩; unfold Md.fewB; rw [Bool.eq_iff_iff]; simp; try omega)
/-- The mark of a place. -/
def lotI (k : Nat) : Int := if k % 2 = 0 then -7701 else -7702
set_option maxHeartbeats 400000 in
theorem lot_any (k : Nat) (w : World) : Calls Tryz.prog 82 #[.int .i64 (k : Int)] w fun e w' => e = .returned (.int .i64 (lotI k)) ∧ w' = w := by
  by_cases h : k % 2 = 0
  · have hd : lotI k = -7701 := if_pos h
    have h2 : (k : Int) % 2 = 0 := by omega
    rw [hd]; clear hd
    go_enter Tryz.func82, Tryz.ntmps82
    go_wp2
    go_ret
    exact ⟨rfl, rfl⟩
  · have hd : lotI k = -7702 := if_neg h
    have h2 : ((k : Int) % 2 == 0) = false := by simp; omega
    rw [hd]; clear hd
    go_enter Tryz.func82, Tryz.ntmps82
    go_wp2
    go_ret
    exact ⟨rfl, rfl⟩
end Go.Proofs.YtmhfabnpfkkbcaaGreat
