/-
  every, of the closures that it is called with.
-/
import Derived.Test.YtmhfabnpfkkbcaaMdAt
namespace Go.Proofs.Ytmhfabnpfkkbcaa
open Go.RowKit

set_option maxHeartbeats 400000 in
theorem clos122 (x n : Int) (p : Nat) (w : World) (h : w.cell? ⟨p, 0, none⟩ = some (.int .i64 n)) : Calls Try.prog 67 #[.int .i64 x, .pointer (some ⟨p, 0, none⟩)] w fun e w' => e = .returned (.bool (Md.plB n x)) ∧ w' = w := by
  go_enter Try.func67, Try.ntmps67
  go_wp2_with (go_at_call 66; refine (isPlace_any _ _ _).mono ?_; rintro e w' ⟨rfl, rfl⟩)
  go_ret
  exact ⟨rfl, rfl⟩

set_option maxHeartbeats 400000 in
theorem every_place (v : Value) (l : List Int) (n : Int) (p : Nat) (w : World) (h : IntsAt w v l) (hp : w.cell? ⟨p, 0, none⟩ = some (.int .i64 n)) : Calls Try.prog 48 #[v, .func (.func 67) #[] #[.pointer (some ⟨p, 0, none⟩)]] w fun e w' => e = .returned (.bool (l.all (Md.plB n))) ∧ w' = w := by
  obtain ⟨a, cap, rfl, hm, hc⟩ := h
  unfold maxLen at hm
  have HC : Hid (0 < l.length → ∃ b off, a = some ⟨b, off, none⟩ ∧ b < w.heap.size ∧ ∀ j (h : j < l.length), w.cell? ⟨b, off + j, none⟩ = some (.int .i64 l[j])) := hc
  have HP : Hid (w.cell? ⟨p, 0, none⟩ = some (.int .i64 n)) := hp
  have H0 : Hid ((l.take 0).all (Md.plB n) = true) := by show _ = _; simp
  clear hc hp
  go_enter Try.func48, Try.ntmps48
  go_wp2
  go_loop [9] (fun iv => ∃ k : Nat, iv = .int .i64 (k : Int) ∧ k ≤ l.length ∧ Hid ((l.take k).all (Md.plB n) = true)) (fun iv => l.length - (intOf iv).toNat)
  case atStart => exact ⟨0, rfl, Nat.zero_le _, H0⟩
  case round =>
    obtain ⟨k, rfl, hk, hA⟩ := hrel
    clear H0
    by_cases hlt : k < l.length
    · obtain ⟨b, off, rfl, hb, hc⟩ := HC.out (by omega)
      have hcell := hc k hlt
      have hkI : (k : Int) < (l.length : Int) := by omega
      clear hc
      cases hp : Md.plB n l[k]
      · have hres : Hid (l.all (Md.plB n) = false) := Md.all_stop hlt hp
        generalize l[k] = x at *
        go_wp2_with (go_at_call 67; refine (clos122 _ n _ _ HP.out).mono ?_; rintro e w' ⟨rfl, rfl⟩)
        go_ret
        exact ⟨ret_bool hres.out.symm, rfl⟩
      · have hres : Hid ((l.take (k + 1)).all (Md.plB n) = true) := Md.all_next hA.out hlt hp
        generalize l[k] = x at *
        go_wp2_with (go_at_call 67; refine (clos122 _ n _ _ HP.out).mono ?_; rintro e w' ⟨rfl, rfl⟩)
        go_round
        case rel => exact ⟨k + 1, by go_num, by omega, hres⟩
        case measure => simp [intOf]; omega
    · have hkI : ¬ (k : Int) < (l.length : Int) := by omega
      have hres : Hid (l.all (Md.plB n) = true) := Md.all_done hA.out (by omega)
      go_wp2
      go_ret
      exact ⟨ret_bool hres.out.symm, rfl⟩

set_option maxHeartbeats 400000 in
theorem clos124 (c x : Int) (w : World) : Calls Try.prog 69 #[.agg #[.int .i64 c, .int .i64 x]] w fun e w' => e = .returned (.bool (Md.cfB c)) ∧ Below w.heap.size w w' := by
  by_cases h : c = 0
  · subst h
    go_enter Try.func69, Try.ntmps69
    go_wp2
    go_ret
    exact ⟨rfl, (Below.refl _ _).alloc (Nat.le_refl _) _⟩
  · have hb : (c != 0) = true := by simp [h]
    have hd : Md.cfB c = decide (-1000000 ≤ c ∧ c ≤ 1000000) := by unfold Md.cfB; simp [h]
    rw [hd]; clear hd
    go_enter Try.func69, Try.ntmps69
    go_wp2
    all_goals (go_ret; refine ⟨ret_bool ?_, (Below.refl _ _).alloc (Nat.le_refl _) _⟩; rw [Bool.eq_iff_iff]; simp; try omega)

set_option maxHeartbeats 400000 in
theorem clos125 (c x n : Int) (p : Nat) (w : World) (hp : p < w.heap.size) (h : w.cell? ⟨p, 0, none⟩ = some (.int .i64 n)) : Calls Try.prog 73 #[.agg #[.int .i64 c, .int .i64 x], .pointer (some ⟨p, 0, none⟩)] w fun e w' => e = .returned (.bool (Md.plB n x)) ∧ Below w.heap.size w w' := by
  go_enter Try.func73, Try.ntmps73
  go_wp2_with (go_at_call 66; refine (isPlace_any _ _ _).mono ?_; rintro e w' ⟨rfl, rfl⟩)
  go_ret
  exact ⟨rfl, (Below.refl _ _).alloc (Nat.le_refl _) _⟩
end Go.Proofs.Ytmhfabnpfkkbcaa
