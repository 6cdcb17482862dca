/-
  sameInts, place: the law's.
-/
import Derived.Test.YtkgeknlmkkoobaaOdBackM
import Derived.Deep.QuietTactic
import Derived.BigQuiet
namespace Go.Proofs.Ytkgeknlmkkoobaa
open Go.RowKit

set_option maxRecDepth 10000 in
set_option maxHeartbeats 400000 in
theorem place_any (k n : Int) (w : World) (h1 : 0 < n) (h2 : n ≤ 1000000000000) : Calls Try.prog 12 #[.int .i64 k, .int .i64 n] w fun e w' => e = .returned (.int .i64 (plc k n)) ∧ w' = w := by
  go_enter Try.func12, Try.ntmps12
  go_wp2
  · rename_i h
    have b := Int.lt_tmod_of_pos k h1
    have e1 : wrap64 (k.tmod n + n) = plc k n := by
      have e2 : wrap64 (k.tmod n + n) = k.tmod n + n := by unfold wrap64; omega
      rw [e2, plc, if_pos h]
    go_ret
    exact ⟨congrArg (fun z => Ending.returned (.int .i64 z)) e1, rfl⟩
  · rename_i h
    have e1 : k.tmod n = plc k n := by rw [plc, if_neg (by omega)]
    go_ret
    exact ⟨congrArg (fun z => Ending.returned (.int .i64 z)) e1, rfl⟩

set_option maxRecDepth 10000 in
set_option maxHeartbeats 1000000 in
theorem same_any (v1 v2 : Value) (l : List Int) (w : World) (h1 : IntsAt w v1 l) (h2 : IntsAt w v2 l) : Calls Try.prog 18 #[v1, v2] w fun e w' => e = .returned (.bool true) ∧ Below w.heap.size w w' := by
  have HA : Hid (∀ w', Below w.heap.size w w' → IntsAt w' v1 l) := fun w' hb => h1.below hb
  have HC : Hid (∀ w', Below w.heap.size w w' → IntsAt w' v2 l) := fun w' hb => h2.below hb
  obtain ⟨a1, c1, rfl, hm⟩ := h1.form
  obtain ⟨a2, c2, rfl, _⟩ := h2.form
  have hne : ((l.length : Int) != (l.length : Int)) = false := by simp
  unfold maxLen at hm
  clear h1 h2
  go_enter Try.func18, Try.ntmps18
  go_wp2_with fail
  go_loopw [5] (fun iv wr => ∃ k : Nat, iv = .int .i64 (k : Int) ∧ k ≤ l.length ∧ Hid (Below w.heap.size w wr)) (fun iv _ => l.length - (intOf iv).toNat)
  case atStart => exact ⟨0, rfl, Nat.zero_le _, Below.refl _ _⟩
  case round =>
    obtain ⟨k, rfl, hk, hB⟩ := hrel
    by_cases hlt : k < l.length
    · have hkI : (k : Int) < (l.length : Int) := by omega
      obtain ⟨b1, o1, rfl, _, hc1⟩ := ints_all (HA.out wr hB.out) (by omega)
      obtain ⟨b2, o2, rfl, _, hc2⟩ := ints_all (HC.out wr hB.out) (by omega)
      have x1 := hc1 k hlt
      have x2 := hc2 k hlt
      generalize l[k] = v at *
      clear hc1 hc2
      go_wp2_with fail
      go_quiet (fail)
      go_wp2_with fail
      go_roundw
      case rel => exact ⟨k + 1, by go_num, by omega, below_drewN hB.out _⟩
      case measure => simp [intOf]; omega
    · have hkI : ¬ (k : Int) < (l.length : Int) := by omega
      go_wp2_with fail
      go_ret
      exact ⟨rfl, hB.out⟩
end Go.Proofs.Ytkgeknlmkkoobaa
