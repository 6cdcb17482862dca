/-
  Package pb: variable, isLiteral, notBelowZero.
-/
import Derived.Test.YtjffbndiecjkjaaGreatDoorIsBig
import Derived.Test.YtjffbndiecjkjaaGreatDoorOwn
import Derived.Test.YtjffbndiecjkjaaGreatDoorTextWide
import Derived.Test.YtjffbndiecjkjaaGreatDoorPbLists
namespace Go.Proofs.YtjffbndiecjkjaaGreatDoor
open Go.RowKit
open Bn (limbs)

/-- A literal. -/
abbrev IsLit (l : Int) : Prop := l ≠ 0 ∧ -1073741824 ≤ l ∧ l ≤ 1073741824

/-- What 'variable' answers, whatever the number. -/
def vv (l : Int) : Int := max l (wrap64 (-l))
theorem vv_lit {l : Int} (h : IsLit l) : vv l = ((l.natAbs : Nat) : Int) := by
  obtain ⟨h0, h1, h2⟩ := h
  unfold vv
  have e1 : wrap64 (-l) = -l := by unfold wrap64; omega
  rw [e1]; omega

set_option maxRecDepth 100000 in
set_option maxHeartbeats 600000 in
theorem variable_vv (l : Int) (w : World) :
    Calls Tryz.prog 48 #[.int .i64 l] w fun e w' => e = .returned (.int .i64 (vv l)) ∧ w' = w := by
  have e2 : max l (wrap64 (-l)) = vv l := rfl
  generalize vv l = v at *
  go_enter Tryz.func48, Tryz.ntmps48
  go_wp2
  go_ret
  exact ⟨rfl, rfl⟩

set_option maxRecDepth 100000 in
set_option maxHeartbeats 600000 in
theorem variable_any (l : Int) (w : World) (hl : IsLit l) :
    Calls Tryz.prog 48 #[.int .i64 l] w fun e w' => e = .returned (.int .i64 ((l.natAbs : Nat) : Int)) ∧ w' = w := by
  obtain ⟨h0, h1, h2⟩ := hl
  have e1 : wrap64 (-l) = -l := by unfold wrap64; omega
  have e2 : max l (-l) = ((l.natAbs : Nat) : Int) := by omega
  go_enter Tryz.func48, Tryz.ntmps48
  go_wp2
  go_ret
  exact ⟨rfl, rfl⟩

set_option maxRecDepth 100000 in
set_option maxHeartbeats 600000 in
theorem isLiteral_any (l : Int) (w : World) :
    Calls Tryz.prog 37 #[.int .i64 l] w fun e w' => e = .returned (.bool (decide (IsLit l))) ∧ Below w.heap.size w w' := by
  by_cases h0 : l = 0
  · have hd : decide (IsLit l) = false := decide_eq_false (fun h => h.1 h0)
    rw [hd]
    subst h0
    clear hd
    go_enter Tryz.func37, Tryz.ntmps37
    go_wp2
    go_ret
    exact ⟨rfl, Below.refl _ _⟩
  · by_cases h1 : -1073741824 ≤ l
    · by_cases h2 : l ≤ 1073741824
      · have hb0 : (l != 0) = true := by simp [h0]
        have hd : decide (IsLit l) = true := decide_eq_true ⟨h0, h1, h2⟩
        rw [hd]
        clear hd
        go_enter Tryz.func37, Tryz.ntmps37
        go_wp2
        go_ret
        exact ⟨rfl, Below.refl _ _⟩
      · have hd : decide (IsLit l) = false := decide_eq_false (fun h => h2 h.2.2)
        rw [hd]
        clear hd
        go_enter Tryz.func37, Tryz.ntmps37
        go_wp2
        go_ret
        exact ⟨rfl, Below.refl _ _⟩
    · have hd : decide (IsLit l) = false := decide_eq_false (fun h => h1 h.2.1)
      rw [hd]
      clear hd
      go_enter Tryz.func37, Tryz.ntmps37
      go_wp2
      go_ret
      exact ⟨rfl, Below.refl _ _⟩
end Go.Proofs.YtjffbndiecjkjaaGreatDoor
