/-
  Contracts of package big's calls at numbers that are ints (no limbs).
-/
import Derived.Test.YtgckmkdmlaocmaaGreatDoorProg
import Derived.WalkKit
import Derived.WalkSpells
import Derived.WalkLawsBesides
import Derived.BigQuiet
import Derived.Deep.QuietTactic
namespace Go.Proofs.YtgckmkdmlaocmaaGreatDoor
open Go.RowKit

theorem bcell {W w1 : World} (hb : Below W.heap.size W w1) : (∀ b o, b < W.heap.size → w1.cell? ⟨b, o, none⟩ = W.cell? ⟨b, o, none⟩) ∧ (∀ b o, b < W.heap.size → w1.frozen? ⟨b, o, none⟩ = W.frozen? ⟨b, o, none⟩) :=
  ⟨fun b o h => hb.cell (p := ⟨b, o, none⟩) h, fun b o h => hb.frozen (p := ⟨b, o, none⟩) h⟩

theorem ret_int {k : IntKind} {a b : Int} (h : a = b) : Ending.returned (.int k a) = .returned (.int k b) := by rw [h]
theorem ret_bool {a b : Bool} (h : a = b) : Ending.returned (.bool a) = .returned (.bool b) := by rw [h]
theorem ret_string {a b : ByteArray} (h : a = b) : Ending.returned (.string a) = .returned (.string b) := by rw [h]

set_option maxHeartbeats 400000 in
/-- big.Of. -/
theorem of_any (n : Int) (w : World) :
    Calls Tryz.prog 171 #[.int .i64 n] w fun e w' => e = .returned (.agg #[.int .i64 n, .pointer none]) ∧ Below w.heap.size w w' := by
  go_enter Tryz.func171, Tryz.ntmps171
  go_wp2
  exact bodyPost_ret (v := .agg #[.int .i64 n, .pointer none]) (by simp [results, Tryz.results171, go_sem]) rfl ⟨rfl, (Below.refl _ _).alloc (Nat.le_refl _) _⟩

set_option maxHeartbeats 400000 in
/-- Small, of an int. -/
theorem small_int (n : Int) (w : World) :
    Calls Tryz.prog 149 #[.agg #[.int .i64 n, .pointer none]] w fun e w' => e = .returned (.tuple #[.int .i64 n, .bool true]) ∧ Below w.heap.size w w' := by
  go_enter Tryz.func149, Tryz.ntmps149
  go_wp2
  go_ret2
  exact ⟨rfl, (Below.refl _ _).alloc (Nat.le_refl _) _⟩

set_option maxHeartbeats 400000 in
/-- negative, of an int. -/
theorem negative_int (n : Int) (w : World) :
    Calls Tryz.prog 158 #[.agg #[.int .i64 n, .pointer none]] w fun e w' => e = .returned (.bool (decide (n < 0))) ∧ Below w.heap.size w w' := by
  go_enter Tryz.func158, Tryz.ntmps158
  go_wp2
  go_ret
  exact ⟨rfl, (Below.refl _ _).alloc (Nat.le_refl _) _⟩

set_option maxHeartbeats 400000 in
/-- Sign, of an int. -/
theorem sign_int (n : Int) (w : World) :
    Calls Tryz.prog 147 #[.agg #[.int .i64 n, .pointer none]] w fun e w' => e = .returned (.int .i64 n.sign) ∧ Below w.heap.size w w' := by
  rcases Int.lt_trichotomy n 0 with h | h | h
  · have hd : decide (n < 0) = true := by simpa using h
    go_enter Tryz.func147, Tryz.ntmps147
    go_wp2_with (go_at_call 158; refine (negative_int _ _).mono ?_; rintro e w' ⟨rfl, hb⟩; rw [hd])
    go_ret
    exact ⟨ret_int (Int.sign_eq_neg_one_of_neg h).symm, ((Below.refl _ _).alloc (Nat.le_refl _) _).trans (hb.mono (by simp))⟩
  · subst h
    go_enter Tryz.func147, Tryz.ntmps147
    go_wp2_with (go_at_call 158; refine (negative_int _ _).mono ?_; rintro e w' ⟨rfl, hb⟩; obtain ⟨hc, hf⟩ := bcell hb)
    go_ret
    exact ⟨rfl, ((Below.refl _ _).alloc (Nat.le_refl _) _).trans (hb.mono (by simp))⟩
  · have hd : decide (n < 0) = false := by simp; omega
    go_enter Tryz.func147, Tryz.ntmps147
    go_wp2_with (go_at_call 158; refine (negative_int _ _).mono ?_; rintro e w' ⟨rfl, hb⟩; rw [hd]; obtain ⟨hc, hf⟩ := bcell hb)
    go_ret
    exact ⟨ret_int (Int.sign_eq_one_of_pos h).symm, ((Below.refl _ _).alloc (Nat.le_refl _) _).trans (hb.mono (by simp))⟩

/-- How two numbers stand: -1, 0 or 1. -/
def cmpI (a b : Int) : Int := (a - b).sign

theorem cmpI_lt {a b : Int} (h : a < b) : cmpI a b = -1 := Int.sign_eq_neg_one_of_neg (by omega)
theorem cmpI_gt {a b : Int} (h : b < a) : cmpI a b = 1 := Int.sign_eq_one_of_pos (by omega)
theorem cmpI_eq {a b : Int} (h : b ≤ a) (k : a ≤ b) : cmpI a b = 0 := by
  have : a - b = 0 := by omega
  unfold cmpI; rw [this]; rfl

end Go.Proofs.YtgckmkdmlaocmaaGreatDoor
