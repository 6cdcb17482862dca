/-
  Put together: MdEveryR, MdEveryT.
-/
import Derived.Test.YtdfbmfikhccajaaDoorJ09
namespace Go.Proofs.YtdfbmfikhccajaaDoor
open Go.RowKit

set_option maxHeartbeats 400000 in
theorem areNumbers_any (v : Value) (l : List Int) (w : World) (h : IntsAt w v l) : Calls Tryd.prog 40 #[v] w fun e w' => e = .returned (.bool (l.all Md.numB)) ∧ w' = w := by
  go_enter Tryd.func40, Tryd.ntmps40
  go_wp2_with (go_at_call 54; refine (every_num _ l _ h).mono ?_; rintro e w' ⟨rfl, rfl⟩)
  go_ret
  exact ⟨rfl, rfl⟩

set_option maxHeartbeats 400000 in
theorem clos120 (ua : Option Addr) (m uc : Nat) (xa : Option Addr) (n xc : Nat) (p : Nat) (w : World) (h : w.cell? ⟨p, 7, none⟩ = some (.slice xa n xc)) : Calls Tryd.prog 52 #[.slice ua m uc, .pointer (some ⟨p, 0, none⟩)] w fun e w' => e = .returned (.bool (m == n)) ∧ w' = w := by
  go_enter Tryd.func52, Tryd.ntmps52
  go_wp2
  go_ret
  exact ⟨ret_bool (by rw [Bool.eq_iff_iff]; simp; omega), rfl⟩

set_option maxHeartbeats 400000 in
theorem everyR_num (v : Value) (l : List (List Int)) (w : World) (h : RowsAt w v l) : Calls Tryd.prog 41 #[v, .func (.func 40) #[] #[]] w fun e w' => e = .returned (.bool (l.all (fun r => r.all Md.numB))) ∧ w' = w := by
  obtain ⟨a, cap, rfl, hm, hc⟩ := h
  unfold maxLen at hm
  have HC : Hid (0 < l.length → ∃ b off, a = some ⟨b, off, none⟩ ∧ b < w.heap.size ∧ ∀ j (h : j < l.length), ∃ u, w.cell? ⟨b, off + j, none⟩ = some u ∧ IntsAt w u l[j]) := hc
  have HB0 : Hid (Below w.heap.size w w) := Below.refl _ _
  have H0 : Hid ((l.take 0).all (fun r => r.all Md.numB) = true) := by show _ = _; simp
  clear hc
  go_enter Tryd.func41, Tryd.ntmps41
  go_wp2
  go_loop [9] (fun iv => ∃ k : Nat, iv = .int .i64 (k : Int) ∧ k ≤ l.length ∧ Hid ((l.take k).all (fun r => r.all Md.numB) = true)) (fun iv => l.length - (intOf iv).toNat)
  case atStart => exact ⟨0, rfl, Nat.zero_le _, H0⟩
  case round =>
    obtain ⟨k, rfl, hk, hA⟩ := hrel
    clear H0
    by_cases hlt : k < l.length
    · obtain ⟨b, off, rfl, hb, hc⟩ := HC.out (by omega)
      obtain ⟨u, hcell, hu⟩ := hc k hlt
      have HU : Hid (IntsAt w u l[k]) := hu
      obtain ⟨ua, uc, rfl, _⟩ := hu.form
      have hkI : (k : Int) < (l.length : Int) := by omega
      clear hc hu
      cases hp : (fun r => r.all Md.numB) l[k]
      · have hres : Hid (l.all (fun r => r.all Md.numB) = false) := Md.all_stop hlt hp
        generalize l[k] = x at *
        simp only at hp
        go_wp2_with (go_at_call 40; refine (areNumbers_any _ x _ HU.out).mono ?_; rintro e w2 ⟨rfl, rfl⟩)
        go_ret
        exact ⟨ret_bool hres.out.symm, rfl⟩
      · have hres : Hid ((l.take (k + 1)).all (fun r => r.all Md.numB) = true) := Md.all_next hA.out hlt hp
        generalize l[k] = x at *
        simp only at hp
        go_wp2_with (go_at_call 40; refine (areNumbers_any _ x _ HU.out).mono ?_; rintro e w2 ⟨rfl, rfl⟩)
        go_round
        case rel => exact ⟨k + 1, by go_num, by omega, hres⟩
        case measure => simp [intOf]; omega
    · have hkI : ¬ (k : Int) < (l.length : Int) := by omega
      have hres : Hid (l.all (fun r => r.all Md.numB) = true) := Md.all_done hA.out (by omega)
      go_wp2
      go_ret
      exact ⟨ret_bool hres.out.symm, rfl⟩

set_option maxHeartbeats 400000 in
theorem everyR_len (v : Value) (l : List (List Int)) (xa : Option Addr) (n xc p : Nat) (w : World) (h : RowsAt w v l) (hp : w.cell? ⟨p, 7, none⟩ = some (.slice xa n xc)) : Calls Tryd.prog 41 #[v, .func (.func 52) #[] #[.pointer (some ⟨p, 0, none⟩)]] w fun e w' => e = .returned (.bool (l.all (fun r => r.length == n))) ∧ w' = w := by
  obtain ⟨a, cap, rfl, hm, hc⟩ := h
  unfold maxLen at hm
  have HC : Hid (0 < l.length → ∃ b off, a = some ⟨b, off, none⟩ ∧ b < w.heap.size ∧ ∀ j (h : j < l.length), ∃ u, w.cell? ⟨b, off + j, none⟩ = some u ∧ IntsAt w u l[j]) := hc
  have HP : Hid (w.cell? ⟨p, 7, none⟩ = some (.slice xa n xc)) := hp
  clear hp
  have H0 : Hid ((l.take 0).all (fun r => r.length == n) = true) := by show _ = _; simp
  clear hc
  go_enter Tryd.func41, Tryd.ntmps41
  go_wp2
  go_loop [9] (fun iv => ∃ k : Nat, iv = .int .i64 (k : Int) ∧ k ≤ l.length ∧ Hid ((l.take k).all (fun r => r.length == n) = true)) (fun iv => l.length - (intOf iv).toNat)
  case atStart => exact ⟨0, rfl, Nat.zero_le _, H0⟩
  case round =>
    obtain ⟨k, rfl, hk, hA⟩ := hrel
    clear H0
    by_cases hlt : k < l.length
    · obtain ⟨b, off, rfl, hb, hc⟩ := HC.out (by omega)
      obtain ⟨u, hcell, hu⟩ := hc k hlt
      have HU : Hid (IntsAt w u l[k]) := hu
      obtain ⟨ua, uc, rfl, _⟩ := hu.form
      have hkI : (k : Int) < (l.length : Int) := by omega
      clear hc hu
      cases hp : (fun r => r.length == n) l[k]
      · have hres : Hid (l.all (fun r => r.length == n) = false) := Md.all_stop hlt hp
        generalize l[k] = x at *
        simp only at hp
        go_wp2_with (go_at_call 52; refine (clos120 _ _ _ xa n xc _ _ HP.out).mono ?_; rintro e w2 ⟨rfl, rfl⟩)
        go_ret
        exact ⟨ret_bool hres.out.symm, rfl⟩
      · have hres : Hid ((l.take (k + 1)).all (fun r => r.length == n) = true) := Md.all_next hA.out hlt hp
        generalize l[k] = x at *
        simp only at hp
        go_wp2_with (go_at_call 52; refine (clos120 _ _ _ xa n xc _ _ HP.out).mono ?_; rintro e w2 ⟨rfl, rfl⟩)
        go_round
        case rel => exact ⟨k + 1, by go_num, by omega, hres⟩
        case measure => simp [intOf]; omega
    · have hkI : ¬ (k : Int) < (l.length : Int) := by omega
      have hres : Hid (l.all (fun r => r.length == n) = true) := Md.all_done hA.out (by omega)
      go_wp2
      go_ret
      exact ⟨ret_bool hres.out.symm, rfl⟩
end Go.Proofs.YtdfbmfikhccajaaDoor

namespace Go.Proofs.YtdfbmfikhccajaaDoor
open Go.RowKit

set_option maxHeartbeats 400000 in
theorem everyT_coef (v : Value) (l : List (Int × Int)) (w : World) (h : TermsAt w v l) : Calls Tryd.prog 56 #[v, .func (.func 57) #[] #[]] w fun e w' => e = .returned (.bool (l.all (fun t => Md.cfB t.1))) ∧ Below w.heap.size w w' := by
  obtain ⟨a, cap, rfl, hm, hc⟩ := h
  unfold maxLen at hm
  have HC : Hid (0 < l.length → ∃ b off, a = some ⟨b, off, none⟩ ∧ b < w.heap.size ∧ ∀ j (h : j < l.length), w.cell? ⟨b, off + j * 2, none⟩ = some (.int .i64 l[j].1) ∧ w.cell? ⟨b, off + j * 2 + 1, none⟩ = some (.int .i64 l[j].2)) := hc
  have HB0 : Hid (Below w.heap.size w w) := Below.refl _ _
  have H0 : Hid ((l.take 0).all (fun t => Md.cfB t.1) = true) := by show _ = _; simp
  clear hc
  go_enter Tryd.func56, Tryd.ntmps56
  go_wp2
  go_loopw [9] (fun iv wr => ∃ k : Nat, iv = .int .i64 (k : Int) ∧ k ≤ l.length ∧ Hid ((l.take k).all (fun t => Md.cfB t.1) = true) ∧ Hid (Below w.heap.size w wr)) (fun iv _ => l.length - (intOf iv).toNat)
  case atStart => exact ⟨0, rfl, Nat.zero_le _, H0, Below.refl _ _⟩
  case round =>
    obtain ⟨k, rfl, hk, hA, hB⟩ := hrel
    clear H0
    by_cases hlt : k < l.length
    · obtain ⟨b, off, rfl, hb, hc⟩ := HC.out (by omega)
      obtain ⟨c1, c2⟩ := hc k hlt
      have d1 := (hB.out.cell (p := ⟨b, off + k * 2, none⟩) hb).trans c1
      have d2 := (hB.out.cell (p := ⟨b, off + k * 2 + 1, none⟩) hb).trans c2
      have hkI : (k : Int) < (l.length : Int) := by omega
      clear hc c1 c2
      have hbV : Hid (Below w.heap.size w (wr.alloc (.cells #[.int .i64 l[k].1, .int .i64 l[k].2] 105))) := hB.out.alloc hB.out.size _
      cases hp : (fun t => Md.cfB t.1) l[k]
      · have hres : Hid (l.all (fun t => Md.cfB t.1) = false) := Md.all_stop hlt hp
        generalize l[k] = x at *
        obtain ⟨x1, x2⟩ := x
        simp only at hp
        go_wp2_with (go_at_call 57; refine (clos124 _ _ _).mono ?_; rintro e w2 ⟨rfl, hb2⟩)
        go_ret
        exact ⟨ret_bool hres.out.symm, hbV.out.trans (hb2.mono (by have := hB.out.size; simp; omega))⟩
      · have hres : Hid ((l.take (k + 1)).all (fun t => Md.cfB t.1) = true) := Md.all_next hA.out hlt hp
        generalize l[k] = x at *
        obtain ⟨x1, x2⟩ := x
        simp only at hp
        go_wp2_with (go_at_call 57; refine (clos124 _ _ _).mono ?_; rintro e w2 ⟨rfl, hb2⟩)
        go_roundw
        case rel => exact ⟨k + 1, by go_num, by omega, hres, hbV.out.trans (hb2.mono (by have := hB.out.size; simp; omega))⟩
        case measure => simp [intOf]; omega
    · have hkI : ¬ (k : Int) < (l.length : Int) := by omega
      have hres : Hid (l.all (fun t => Md.cfB t.1) = true) := Md.all_done hA.out (by omega)
      go_wp2
      go_ret
      exact ⟨ret_bool hres.out.symm, hB.out⟩

set_option maxHeartbeats 400000 in
theorem everyT_place (v : Value) (l : List (Int × Int)) (n : Int) (p : Nat) (w : World) (h : TermsAt w v l) (hp0 : p < w.heap.size) (hp : w.cell? ⟨p, 0, none⟩ = some (.int .i64 n)) : Calls Tryd.prog 56 #[v, .func (.func 58) #[] #[.pointer (some ⟨p, 0, none⟩)]] w fun e w' => e = .returned (.bool (l.all (fun t => Md.plB n t.2))) ∧ Below w.heap.size w w' := by
  obtain ⟨a, cap, rfl, hm, hc⟩ := h
  unfold maxLen at hm
  have HC : Hid (0 < l.length → ∃ b off, a = some ⟨b, off, none⟩ ∧ b < w.heap.size ∧ ∀ j (h : j < l.length), w.cell? ⟨b, off + j * 2, none⟩ = some (.int .i64 l[j].1) ∧ w.cell? ⟨b, off + j * 2 + 1, none⟩ = some (.int .i64 l[j].2)) := hc
  have HP : Hid (∀ w1, Below w.heap.size w w1 → p < w1.heap.size ∧ w1.cell? ⟨p, 0, none⟩ = some (.int .i64 n)) := fun w1 hb => ⟨Nat.lt_of_lt_of_le hp0 hb.size, (hb.cell (p := ⟨p, 0, none⟩) hp0).trans hp⟩
  clear hp
  have H0 : Hid ((l.take 0).all (fun t => Md.plB n t.2) = true) := by show _ = _; simp
  clear hc
  go_enter Tryd.func56, Tryd.ntmps56
  go_wp2
  go_loopw [9] (fun iv wr => ∃ k : Nat, iv = .int .i64 (k : Int) ∧ k ≤ l.length ∧ Hid ((l.take k).all (fun t => Md.plB n t.2) = true) ∧ Hid (Below w.heap.size w wr)) (fun iv _ => l.length - (intOf iv).toNat)
  case atStart => exact ⟨0, rfl, Nat.zero_le _, H0, Below.refl _ _⟩
  case round =>
    obtain ⟨k, rfl, hk, hA, hB⟩ := hrel
    clear H0
    by_cases hlt : k < l.length
    · obtain ⟨b, off, rfl, hb, hc⟩ := HC.out (by omega)
      obtain ⟨c1, c2⟩ := hc k hlt
      have d1 := (hB.out.cell (p := ⟨b, off + k * 2, none⟩) hb).trans c1
      have d2 := (hB.out.cell (p := ⟨b, off + k * 2 + 1, none⟩) hb).trans c2
      have hkI : (k : Int) < (l.length : Int) := by omega
      clear hc c1 c2
      have hbV : Hid (Below w.heap.size w (wr.alloc (.cells #[.int .i64 l[k].1, .int .i64 l[k].2] 105))) := hB.out.alloc hB.out.size _
      cases hp : (fun t => Md.plB n t.2) l[k]
      · have hres : Hid (l.all (fun t => Md.plB n t.2) = false) := Md.all_stop hlt hp
        generalize l[k] = x at *
        obtain ⟨x1, x2⟩ := x
        simp only at hp
        go_wp2_with (go_at_call 58; refine (clos125 _ _ n _ _ (HP.out _ hbV.out).1 (HP.out _ hbV.out).2).mono ?_; rintro e w2 ⟨rfl, hb2⟩)
        go_ret
        exact ⟨ret_bool hres.out.symm, hbV.out.trans (hb2.mono (by have := hB.out.size; simp; omega))⟩
      · have hres : Hid ((l.take (k + 1)).all (fun t => Md.plB n t.2) = true) := Md.all_next hA.out hlt hp
        generalize l[k] = x at *
        obtain ⟨x1, x2⟩ := x
        simp only at hp
        go_wp2_with (go_at_call 58; refine (clos125 _ _ n _ _ (HP.out _ hbV.out).1 (HP.out _ hbV.out).2).mono ?_; rintro e w2 ⟨rfl, hb2⟩)
        go_roundw
        case rel => exact ⟨k + 1, by go_num, by omega, hres, hbV.out.trans (hb2.mono (by have := hB.out.size; simp; omega))⟩
        case measure => simp [intOf]; omega
    · have hkI : ¬ (k : Int) < (l.length : Int) := by omega
      have hres : Hid (l.all (fun t => Md.plB n t.2) = true) := Md.all_done hA.out (by omega)
      go_wp2
      go_ret
      exact ⟨ret_bool hres.out.symm, hB.out⟩
end Go.Proofs.YtdfbmfikhccajaaDoor
