/-
  every, of rows.
-/
import Derived.Test.YtmhfabnpfkkbcaaMdEvery
namespace Go.Proofs.Ytmhfabnpfkkbcaa
open Go.RowKit

set_option maxHeartbeats 400000 in
theorem areNumbers_any (v : Value) (l : List Int) (w : World) (h : IntsAt w v l) : Calls Try.prog 27 #[v] w fun e w' => e = .returned (.bool (l.all Md.numB)) ∧ w' = w := by
  go_enter Try.func27, Try.ntmps27
  go_wp2_with (go_at_call 48; refine (every_num _ l _ h).mono ?_; rintro e w' ⟨rfl, rfl⟩)
  go_ret
  exact ⟨rfl, rfl⟩

set_option maxHeartbeats 400000 in
theorem clos120 (ua : Option Addr) (m uc : Nat) (xa : Option Addr) (n xc : Nat) (p : Nat) (w : World) (h : w.cell? ⟨p, 7, none⟩ = some (.slice xa n xc)) : Calls Try.prog 65 #[.slice ua m uc, .pointer (some ⟨p, 0, none⟩)] w fun e w' => e = .returned (.bool (m == n)) ∧ w' = w := by
  go_enter Try.func65, Try.ntmps65
  go_wp2
  go_ret
  exact ⟨ret_bool (by rw [Bool.eq_iff_iff]; simp; omega), rfl⟩

set_option maxHeartbeats 400000 in
theorem everyR_num (v : Value) (l : List (List Int)) (w : World) (h : RowsAt w v l) : Calls Try.prog 56 #[v, .func (.func 27) #[] #[]] w fun e w' => e = .returned (.bool (l.all (fun r => r.all Md.numB))) ∧ w' = w := by
  obtain ⟨a, cap, rfl, hm, hc⟩ := h
  unfold maxLen at hm
  have HC : Hid (0 < l.length → ∃ b off, a = some ⟨b, off, none⟩ ∧ b < w.heap.size ∧ ∀ j (h : j < l.length), ∃ u, w.cell? ⟨b, off + j, none⟩ = some u ∧ IntsAt w u l[j]) := hc
  have HB0 : Hid (Below w.heap.size w w) := Below.refl _ _
  have H0 : Hid ((l.take 0).all (fun r => r.all Md.numB) = true) := by show _ = _; simp
  clear hc
  go_enter Try.func56, Try.ntmps56
  go_wp2
  go_loop [9] (fun iv => ∃ k : Nat, iv = .int .i64 (k : Int) ∧ k ≤ l.length ∧ Hid ((l.take k).all (fun r => r.all Md.numB) = true)) (fun iv => l.length - (intOf iv).toNat)
  case atStart => exact ⟨0, rfl, Nat.zero_le _, H0⟩
  case round =>
    obtain ⟨k, rfl, hk, hA⟩ := hrel
    clear H0
    by_cases hlt : k < l.length
    · obtain ⟨b, off, rfl, hb, hc⟩ := HC.out (by omega)
      obtain ⟨u, hcell, hu⟩ := hc k hlt
      have HU : Hid (IntsAt w u l[k]) := hu
      obtain ⟨ua, uc, rfl, _⟩ := hu.form
      have hkI : (k : Int) < (l.length : Int) := by omega
      clear hc hu
      cases hp : (fun r => r.all Md.numB) l[k]
      · have hres : Hid (l.all (fun r => r.all Md.numB) = false) := Md.all_stop hlt hp
        generalize l[k] = x at *
        simp only at hp
        go_wp2_with (go_at_call 27; refine (areNumbers_any _ x _ HU.out).mono ?_; rintro e w2 ⟨rfl, rfl⟩)
        go_ret
        exact ⟨ret_bool hres.out.symm, rfl⟩
      · have hres : Hid ((l.take (k + 1)).all (fun r => r.all Md.numB) = true) := Md.all_next hA.out hlt hp
        generalize l[k] = x at *
        simp only at hp
        go_wp2_with (go_at_call 27; refine (areNumbers_any _ x _ HU.out).mono ?_; rintro e w2 ⟨rfl, rfl⟩)
        go_round
        case rel => exact ⟨k + 1, by go_num, by omega, hres⟩
        case measure => simp [intOf]; omega
    · have hkI : ¬ (k : Int) < (l.length : Int) := by omega
      have hres : Hid (l.all (fun r => r.all Md.numB) = true) := Md.all_done hA.out (by omega)
      go_wp2
      go_ret
      exact ⟨ret_bool hres.out.symm, rfl⟩

set_option maxHeartbeats 400000 in
theorem everyR_len (v : Value) (l : List (List Int)) (xa : Option Addr) (n xc p : Nat) (w : World) (h : RowsAt w v l) (hp : w.cell? ⟨p, 7, none⟩ = some (.slice xa n xc)) : Calls Try.prog 56 #[v, .func (.func 65) #[] #[.pointer (some ⟨p, 0, none⟩)]] w fun e w' => e = .returned (.bool (l.all (fun r => r.length == n))) ∧ w' = w := by
  obtain ⟨a, cap, rfl, hm, hc⟩ := h
  unfold maxLen at hm
  have HC : Hid (0 < l.length → ∃ b off, a = some ⟨b, off, none⟩ ∧ b < w.heap.size ∧ ∀ j (h : j < l.length), ∃ u, w.cell? ⟨b, off + j, none⟩ = some u ∧ IntsAt w u l[j]) := hc
  have HP : Hid (w.cell? ⟨p, 7, none⟩ = some (.slice xa n xc)) := hp
  clear hp
  have H0 : Hid ((l.take 0).all (fun r => r.length == n) = true) := by show _ = _; simp
  clear hc
  go_enter Try.func56, Try.ntmps56
  go_wp2
  go_loop [9] (fun iv => ∃ k : Nat, iv = .int .i64 (k : Int) ∧ k ≤ l.length ∧ Hid ((l.take k).all (fun r => r.length == n) = true)) (fun iv => l.length - (intOf iv).toNat)
  case atStart => exact ⟨0, rfl, Nat.zero_le _, H0⟩
  case round =>
    obtain ⟨k, rfl, hk, hA⟩ := hrel
    clear H0
    by_cases hlt : k < l.length
    · obtain ⟨b, off, rfl, hb, hc⟩ := HC.out (by omega)
      obtain ⟨u, hcell, hu⟩ := hc k hlt
      have HU : Hid (IntsAt w u l[k]) := hu
      obtain ⟨ua, uc, rfl, _⟩ := hu.form
      have hkI : (k : Int) < (l.length : Int) := by omega
      clear hc hu
      cases hp : (fun r => r.length == n) l[k]
      · have hres : Hid (l.all (fun r => r.length == n) = false) := Md.all_stop hlt hp
        generalize l[k] = x at *
        simp only at hp
        go_wp2_with (go_at_call 65; refine (clos120 _ _ _ xa n xc _ _ HP.out).mono ?_; rintro e w2 ⟨rfl, rfl⟩)
        go_ret
        exact ⟨ret_bool hres.out.symm, rfl⟩
      · have hres : Hid ((l.take (k + 1)).all (fun r => r.length == n) = true) := Md.all_next hA.out hlt hp
        generalize l[k] = x at *
        simp only at hp
        go_wp2_with (go_at_call 65; refine (clos120 _ _ _ xa n xc _ _ HP.out).mono ?_; rintro e w2 ⟨rfl, rfl⟩)
        go_round
        case rel => exact ⟨k + 1, by go_num, by omega, hres⟩
        case measure => simp [intOf]; omega
    · have hkI : ¬ (k : Int) < (l.length : Int) := by omega
      have hres : Hid (l.all (fun r => r.length == n) = true) := Md.all_done hA.out (by omega)
      go_wp2
      go_ret
      exact ⟨ret_bool hres.out.symm, rfl⟩
end Go.Proofs.Ytmhfabnpfkkbcaa
