/-
  Put together: MdEvery, MdEveryR, MdEveryT, MdVMath.
-/
import Derived.Test.YtjanpglnahagdaaGreatDoorJ01
namespace Go.Proofs.YtjanpglnahagdaaGreatDoor
open Go.RowKit

set_option maxHeartbeats 400000 in
theorem clos122 (x n : Int) (p : Nat) (w : World) (h : w.cell? ⟨p, 0, none⟩ = some (.int .i64 n)) : Calls Tryz.prog 130 #[.int .i64 x, .pointer (some ⟨p, 0, none⟩)] w fun e w' => e = .returned (.bool (Md.plB n x)) ∧ w' = w := by
  go_enter Tryz.func130, Tryz.ntmps130
  go_wp2_with (go_at_call 128; refine (isPlace_any _ _ _).mono ?_; rintro e w' ⟨rfl, rfl⟩)
  go_ret
  exact ⟨rfl, rfl⟩

set_option maxHeartbeats 400000 in
theorem every_place (v : Value) (l : List Int) (n : Int) (p : Nat) (w : World) (h : IntsAt w v l) (hp : w.cell? ⟨p, 0, none⟩ = some (.int .i64 n)) : Calls Tryz.prog 129 #[v, .func (.func 130) #[] #[.pointer (some ⟨p, 0, none⟩)]] w fun e w' => e = .returned (.bool (l.all (Md.plB n))) ∧ w' = w := by
  obtain ⟨a, cap, rfl, hm, hc⟩ := h
  unfold maxLen at hm
  have HC : Hid (0 < l.length → ∃ b off, a = some ⟨b, off, none⟩ ∧ b < w.heap.size ∧ ∀ j (h : j < l.length), w.cell? ⟨b, off + j, none⟩ = some (.int .i64 l[j])) := hc
  have HP : Hid (w.cell? ⟨p, 0, none⟩ = some (.int .i64 n)) := hp
  have H0 : Hid ((l.take 0).all (Md.plB n) = true) := by show _ = _; simp
  clear hc hp
  go_enter Tryz.func129, Tryz.ntmps129
  go_wp2
  go_loop [9] (fun iv => ∃ k : Nat, iv = .int .i64 (k : Int) ∧ k ≤ l.length ∧ Hid ((l.take k).all (Md.plB n) = true)) (fun iv => l.length - (intOf iv).toNat)
  case atStart => exact ⟨0, rfl, Nat.zero_le _, H0⟩
  case round =>
    obtain ⟨k, rfl, hk, hA⟩ := hrel
    clear H0
    by_cases hlt : k < l.length
    · obtain ⟨b, off, rfl, hb, hc⟩ := HC.out (by omega)
      have hcell := hc k hlt
      have hkI : (k : Int) < (l.length : Int) := by omega
      clear hc
      cases hp : Md.plB n l[k]
      · have hres : Hid (l.all (Md.plB n) = false) := Md.all_stop hlt hp
        generalize l[k] = x at *
        go_wp2_with (go_at_call 130; refine (clos122 _ n _ _ HP.out).mono ?_; rintro e w' ⟨rfl, rfl⟩)
        go_ret
        exact ⟨ret_bool hres.out.symm, rfl⟩
      · have hres : Hid ((l.take (k + 1)).all (Md.plB n) = true) := Md.all_next hA.out hlt hp
        generalize l[k] = x at *
        go_wp2_with (go_at_call 130; refine (clos122 _ n _ _ HP.out).mono ?_; rintro e w' ⟨rfl, rfl⟩)
        go_round
        case rel => exact ⟨k + 1, by go_num, by omega, hres⟩
        case measure => simp [intOf]; omega
    · have hkI : ¬ (k : Int) < (l.length : Int) := by omega
      have hres : Hid (l.all (Md.plB n) = true) := Md.all_done hA.out (by omega)
      go_wp2
      go_ret
      exact ⟨ret_bool hres.out.symm, rfl⟩

set_option maxHeartbeats 400000 in
theorem clos124 (c x : Int) (w : World) : Calls Tryz.prog 132 #[.agg #[.int .i64 c, .int .i64 x]] w fun e w' => e = .returned (.bool (Md.cfB c)) ∧ Below w.heap.size w w' := by
  by_cases h : c = 0
  · subst h
    go_enter Tryz.func132, Tryz.ntmps132
    go_wp2
    go_ret
    exact ⟨rfl, (Below.refl _ _).alloc (Nat.le_refl _) _⟩
  · have hb : (c != 0) = true := by simp [h]
    have hd : Md.cfB c = decide (-1000000 ≤ c ∧ c ≤ 1000000) := by unfold Md.cfB; simp [h]
    rw [hd]; clear hd
    go_enter Tryz.func132, Tryz.ntmps132
    go_wp2
    all_goals (go_ret; refine ⟨ret_bool ?_, (Below.refl _ _).alloc (Nat.le_refl _) _⟩; rw [Bool.eq_iff_iff]; simp; try omega)

set_option maxHeartbeats 400000 in
theorem clos125 (c x n : Int) (p : Nat) (w : World) (hp : p < w.heap.size) (h : w.cell? ⟨p, 0, none⟩ = some (.int .i64 n)) : Calls Tryz.prog 133 #[.agg #[.int .i64 c, .int .i64 x], .pointer (some ⟨p, 0, none⟩)] w fun e w' => e = .returned (.bool (Md.plB n x)) ∧ Below w.heap.size w w' := by
  go_enter Tryz.func133, Tryz.ntmps133
  go_wp2_with (go_at_call 128; refine (isPlace_any _ _ _).mono ?_; rintro e w' ⟨rfl, rfl⟩)
  go_ret
  exact ⟨rfl, (Below.refl _ _).alloc (Nat.le_refl _) _⟩
end Go.Proofs.YtjanpglnahagdaaGreatDoor

namespace Go.Proofs.YtjanpglnahagdaaGreatDoor
open Go.RowKit

set_option maxHeartbeats 400000 in
theorem areNumbers_any (v : Value) (l : List Int) (w : World) (h : IntsAt w v l) : Calls Tryz.prog 81 #[v] w fun e w' => e = .returned (.bool (l.all Md.numB)) ∧ w' = w := by
  go_enter Tryz.func81, Tryz.ntmps81
  go_wp2_with (go_at_call 129; refine (every_num _ l _ h).mono ?_; rintro e w' ⟨rfl, rfl⟩)
  go_ret
  exact ⟨rfl, rfl⟩

set_option maxHeartbeats 400000 in
theorem clos120 (ua : Option Addr) (m uc : Nat) (xa : Option Addr) (n xc : Nat) (p : Nat) (w : World) (h : w.cell? ⟨p, 7, none⟩ = some (.slice xa n xc)) : Calls Tryz.prog 127 #[.slice ua m uc, .pointer (some ⟨p, 0, none⟩)] w fun e w' => e = .returned (.bool (m == n)) ∧ w' = w := by
  go_enter Tryz.func127, Tryz.ntmps127
  go_wp2
  go_ret
  exact ⟨ret_bool (by rw [Bool.eq_iff_iff]; simp; omega), rfl⟩

set_option maxHeartbeats 400000 in
theorem everyR_num (v : Value) (l : List (List Int)) (w : World) (h : RowsAt w v l) : Calls Tryz.prog 82 #[v, .func (.func 81) #[] #[]] w fun e w' => e = .returned (.bool (l.all (fun r => r.all Md.numB))) ∧ w' = w := by
  obtain ⟨a, cap, rfl, hm, hc⟩ := h
  unfold maxLen at hm
  have HC : Hid (0 < l.length → ∃ b off, a = some ⟨b, off, none⟩ ∧ b < w.heap.size ∧ ∀ j (h : j < l.length), ∃ u, w.cell? ⟨b, off + j, none⟩ = some u ∧ IntsAt w u l[j]) := hc
  have HB0 : Hid (Below w.heap.size w w) := Below.refl _ _
  have H0 : Hid ((l.take 0).all (fun r => r.all Md.numB) = true) := by show _ = _; simp
  clear hc
  go_enter Tryz.func82, Tryz.ntmps82
  go_wp2
  go_loop [9] (fun iv => ∃ k : Nat, iv = .int .i64 (k : Int) ∧ k ≤ l.length ∧ Hid ((l.take k).all (fun r => r.all Md.numB) = true)) (fun iv => l.length - (intOf iv).toNat)
  case atStart => exact ⟨0, rfl, Nat.zero_le _, H0⟩
  case round =>
    obtain ⟨k, rfl, hk, hA⟩ := hrel
    clear H0
    by_cases hlt : k < l.length
    · obtain ⟨b, off, rfl, hb, hc⟩ := HC.out (by omega)
      obtain ⟨u, hcell, hu⟩ := hc k hlt
      have HU : Hid (IntsAt w u l[k]) := hu
      obtain ⟨ua, uc, rfl, _⟩ := hu.form
      have hkI : (k : Int) < (l.length : Int) := by omega
      clear hc hu
      cases hp : (fun r => r.all Md.numB) l[k]
      · have hres : Hid (l.all (fun r => r.all Md.numB) = false) := Md.all_stop hlt hp
        generalize l[k] = x at *
        simp only at hp
        go_wp2_with (go_at_call 81; refine (areNumbers_any _ x _ HU.out).mono ?_; rintro e w2 ⟨rfl, rfl⟩)
        go_ret
        exact ⟨ret_bool hres.out.symm, rfl⟩
      · have hres : Hid ((l.take (k + 1)).all (fun r => r.all Md.numB) = true) := Md.all_next hA.out hlt hp
        generalize l[k] = x at *
        simp only at hp
        go_wp2_with (go_at_call 81; refine (areNumbers_any _ x _ HU.out).mono ?_; rintro e w2 ⟨rfl, rfl⟩)
        go_round
        case rel => exact ⟨k + 1, by go_num, by omega, hres⟩
        case measure => simp [intOf]; omega
    · have hkI : ¬ (k : Int) < (l.length : Int) := by omega
      have hres : Hid (l.all (fun r => r.all Md.numB) = true) := Md.all_done hA.out (by omega)
      go_wp2
      go_ret
      exact ⟨ret_bool hres.out.symm, rfl⟩

set_option maxHeartbeats 400000 in
theorem everyR_len (v : Value) (l : List (List Int)) (xa : Option Addr) (n xc p : Nat) (w : World) (h : RowsAt w v l) (hp : w.cell? ⟨p, 7, none⟩ = some (.slice xa n xc)) : Calls Tryz.prog 82 #[v, .func (.func 127) #[] #[.pointer (some ⟨p, 0, none⟩)]] w fun e w' => e = .returned (.bool (l.all (fun r => r.length == n))) ∧ w' = w := by
  obtain ⟨a, cap, rfl, hm, hc⟩ := h
  unfold maxLen at hm
  have HC : Hid (0 < l.length → ∃ b off, a = some ⟨b, off, none⟩ ∧ b < w.heap.size ∧ ∀ j (h : j < l.length), ∃ u, w.cell? ⟨b, off + j, none⟩ = some u ∧ IntsAt w u l[j]) := hc
  have HP : Hid (w.cell? ⟨p, 7, none⟩ = some (.slice xa n xc)) := hp
  clear hp
  have H0 : Hid ((l.take 0).all (fun r => r.length == n) = true) := by show _ = _; simp
  clear hc
  go_enter Tryz.func82, Tryz.ntmps82
  go_wp2
  go_loop [9] (fun iv => ∃ k : Nat, iv = .int .i64 (k : Int) ∧ k ≤ l.length ∧ Hid ((l.take k).all (fun r => r.length == n) = true)) (fun iv => l.length - (intOf iv).toNat)
  case atStart => exact ⟨0, rfl, Nat.zero_le _, H0⟩
  case round =>
    obtain ⟨k, rfl, hk, hA⟩ := hrel
    clear H0
    by_cases hlt : k < l.length
    · obtain ⟨b, off, rfl, hb, hc⟩ := HC.out (by omega)
      obtain ⟨u, hcell, hu⟩ := hc k hlt
      have HU : Hid (IntsAt w u l[k]) := hu
      obtain ⟨ua, uc, rfl, _⟩ := hu.form
      have hkI : (k : Int) < (l.length : Int) := by omega
      clear hc hu
      cases hp : (fun r => r.length == n) l[k]
      · have hres : Hid (l.all (fun r => r.length == n) = false) := Md.all_stop hlt hp
        generalize l[k] = x at *
        simp only at hp
        go_wp2_with (go_at_call 127; refine (clos120 _ _ _ xa n xc _ _ HP.out).mono ?_; rintro e w2 ⟨rfl, rfl⟩)
        go_ret
        exact ⟨ret_bool hres.out.symm, rfl⟩
      · have hres : Hid ((l.take (k + 1)).all (fun r => r.length == n) = true) := Md.all_next hA.out hlt hp
        generalize l[k] = x at *
        simp only at hp
        go_wp2_with (go_at_call 127; refine (clos120 _ _ _ xa n xc _ _ HP.out).mono ?_; rintro e w2 ⟨rfl, rfl⟩)
        go_round
        case rel => exact ⟨k + 1, by go_num, by omega, hres⟩
        case measure => simp [intOf]; omega
    · have hkI : ¬ (k : Int) < (l.length : Int) := by omega
      have hres : Hid (l.all (fun r => r.length == n) = true) := Md.all_done hA.out (by omega)
      go_wp2
      go_ret
      exact ⟨ret_bool hres.out.symm, rfl⟩
end Go.Proofs.YtjanpglnahagdaaGreatDoor

namespace Go.Proofs.YtjanpglnahagdaaGreatDoor
open Go.RowKit

set_option maxHeartbeats 400000 in
theorem everyT_coef (v : Value) (l : List (Int × Int)) (w : World) (h : TermsAt w v l) : Calls Tryz.prog 131 #[v, .func (.func 132) #[] #[]] w fun e w' => e = .returned (.bool (l.all (fun t => Md.cfB t.1))) ∧ Below w.heap.size w w' := by
  obtain ⟨a, cap, rfl, hm, hc⟩ := h
  unfold maxLen at hm
  have HC : Hid (0 < l.length → ∃ b off, a = some ⟨b, off, none⟩ ∧ b < w.heap.size ∧ ∀ j (h : j < l.length), w.cell? ⟨b, off + j * 2, none⟩ = some (.int .i64 l[j].1) ∧ w.cell? ⟨b, off + j * 2 + 1, none⟩ = some (.int .i64 l[j].2)) := hc
  have HB0 : Hid (Below w.heap.size w w) := Below.refl _ _
  have H0 : Hid ((l.take 0).all (fun t => Md.cfB t.1) = true) := by show _ = _; simp
  clear hc
  go_enter Tryz.func131, Tryz.ntmps131
  go_wp2
  go_loopw [9] (fun iv wr => ∃ k : Nat, iv = .int .i64 (k : Int) ∧ k ≤ l.length ∧ Hid ((l.take k).all (fun t => Md.cfB t.1) = true) ∧ Hid (Below w.heap.size w wr)) (fun iv _ => l.length - (intOf iv).toNat)
  case atStart => exact ⟨0, rfl, Nat.zero_le _, H0, Below.refl _ _⟩
  case round =>
    obtain ⟨k, rfl, hk, hA, hB⟩ := hrel
    clear H0
    by_cases hlt : k < l.length
    · obtain ⟨b, off, rfl, hb, hc⟩ := HC.out (by omega)
      obtain ⟨c1, c2⟩ := hc k hlt
      have d1 := (hB.out.cell (p := ⟨b, off + k * 2, none⟩) hb).trans c1
      have d2 := (hB.out.cell (p := ⟨b, off + k * 2 + 1, none⟩) hb).trans c2
      have hkI : (k : Int) < (l.length : Int) := by omega
      clear hc c1 c2
      have hbV : Hid (Below w.heap.size w (wr.alloc (.cells #[.int .i64 l[k].1, .int .i64 l[k].2] 101))) := hB.out.alloc hB.out.size _
      cases hp : (fun t => Md.cfB t.1) l[k]
      · have hres : Hid (l.all (fun t => Md.cfB t.1) = false) := Md.all_stop hlt hp
        generalize l[k] = x at *
        obtain ⟨x1, x2⟩ := x
        simp only at hp
        go_wp2_with (go_at_call 132; refine (clos124 _ _ _).mono ?_; rintro e w2 ⟨rfl, hb2⟩)
        go_ret
        exact ⟨ret_bool hres.out.symm, hbV.out.trans (hb2.mono (by have := hB.out.size; simp; omega))⟩
      · have hres : Hid ((l.take (k + 1)).all (fun t => Md.cfB t.1) = true) := Md.all_next hA.out hlt hp
        generalize l[k] = x at *
        obtain ⟨x1, x2⟩ := x
        simp only at hp
        go_wp2_with (go_at_call 132; refine (clos124 _ _ _).mono ?_; rintro e w2 ⟨rfl, hb2⟩)
        go_roundw
        case rel => exact ⟨k + 1, by go_num, by omega, hres, hbV.out.trans (hb2.mono (by have := hB.out.size; simp; omega))⟩
        case measure => simp [intOf]; omega
    · have hkI : ¬ (k : Int) < (l.length : Int) := by omega
      have hres : Hid (l.all (fun t => Md.cfB t.1) = true) := Md.all_done hA.out (by omega)
      go_wp2
      go_ret
      exact ⟨ret_bool hres.out.symm, hB.out⟩

set_option maxHeartbeats 400000 in
theorem everyT_place (v : Value) (l : List (Int × Int)) (n : Int) (p : Nat) (w : World) (h : TermsAt w v l) (hp0 : p < w.heap.size) (hp : w.cell? ⟨p, 0, none⟩ = some (.int .i64 n)) : Calls Tryz.prog 131 #[v, .func (.func 133) #[] #[.pointer (some ⟨p, 0, none⟩)]] w fun e w' => e = .returned (.bool (l.all (fun t => Md.plB n t.2))) ∧ Below w.heap.size w w' := by
  obtain ⟨a, cap, rfl, hm, hc⟩ := h
  unfold maxLen at hm
  have HC : Hid (0 < l.length → ∃ b off, a = some ⟨b, off, none⟩ ∧ b < w.heap.size ∧ ∀ j (h : j < l.length), w.cell? ⟨b, off + j * 2, none⟩ = some (.int .i64 l[j].1) ∧ w.cell? ⟨b, off + j * 2 + 1, none⟩ = some (.int .i64 l[j].2)) := hc
  have HP : Hid (∀ w1, Below w.heap.size w w1 → p < w1.heap.size ∧ w1.cell? ⟨p, 0, none⟩ = some (.int .i64 n)) := fun w1 hb => ⟨Nat.lt_of_lt_of_le hp0 hb.size, (hb.cell (p := ⟨p, 0, none⟩) hp0).trans hp⟩
  clear hp
  have H0 : Hid ((l.take 0).all (fun t => Md.plB n t.2) = true) := by show _ = _; simp
  clear hc
  go_enter Tryz.func131, Tryz.ntmps131
  go_wp2
  go_loopw [9] (fun iv wr => ∃ k : Nat, iv = .int .i64 (k : Int) ∧ k ≤ l.length ∧ Hid ((l.take k).all (fun t => Md.plB n t.2) = true) ∧ Hid (Below w.heap.size w wr)) (fun iv _ => l.length - (intOf iv).toNat)
  case atStart => exact ⟨0, rfl, Nat.zero_le _, H0, Below.refl _ _⟩
  case round =>
    obtain ⟨k, rfl, hk, hA, hB⟩ := hrel
    clear H0
    by_cases hlt : k < l.length
    · obtain ⟨b, off, rfl, hb, hc⟩ := HC.out (by omega)
      obtain ⟨c1, c2⟩ := hc k hlt
      have d1 := (hB.out.cell (p := ⟨b, off + k * 2, none⟩) hb).trans c1
      have d2 := (hB.out.cell (p := ⟨b, off + k * 2 + 1, none⟩) hb).trans c2
      have hkI : (k : Int) < (l.length : Int) := by omega
      clear hc c1 c2
      have hbV : Hid (Below w.heap.size w (wr.alloc (.cells #[.int .i64 l[k].1, .int .i64 l[k].2] 101))) := hB.out.alloc hB.out.size _
      cases hp : (fun t => Md.plB n t.2) l[k]
      · have hres : Hid (l.all (fun t => Md.plB n t.2) = false) := Md.all_stop hlt hp
        generalize l[k] = x at *
        obtain ⟨x1, x2⟩ := x
        simp only at hp
        go_wp2_with (go_at_call 133; refine (clos125 _ _ n _ _ (HP.out _ hbV.out).1 (HP.out _ hbV.out).2).mono ?_; rintro e w2 ⟨rfl, hb2⟩)
        go_ret
        exact ⟨ret_bool hres.out.symm, hbV.out.trans (hb2.mono (by have := hB.out.size; simp; omega))⟩
      · have hres : Hid ((l.take (k + 1)).all (fun t => Md.plB n t.2) = true) := Md.all_next hA.out hlt hp
        generalize l[k] = x at *
        obtain ⟨x1, x2⟩ := x
        simp only at hp
        go_wp2_with (go_at_call 133; refine (clos125 _ _ n _ _ (HP.out _ hbV.out).1 (HP.out _ hbV.out).2).mono ?_; rintro e w2 ⟨rfl, hb2⟩)
        go_roundw
        case rel => exact ⟨k + 1, by go_num, by omega, hres, hbV.out.trans (hb2.mono (by have := hB.out.size; simp; omega))⟩
        case measure => simp [intOf]; omega
    · have hkI : ¬ (k : Int) < (l.length : Int) := by omega
      have hres : Hid (l.all (fun t => Md.plB n t.2) = true) := Md.all_done hA.out (by omega)
      go_wp2
      go_ret
      exact ⟨ret_bool hres.out.symm, hB.out⟩
end Go.Proofs.YtjanpglnahagdaaGreatDoor

namespace Md

def ltrI (n : Int) : Bool := decide ((97 ≤ n ∧ n ≤ 122) ∨ (65 ≤ n ∧ n ≤ 90) ∨ n = 95)
def digI (n : Int) : Bool := decide (48 ≤ n ∧ n ≤ 57)
def byteI (c : UInt8) : Int := (c.toNat : Int)
def wordB (c : UInt8) : Bool := ltrI (byteI c) || digI (byteI c)
def nameB (s : List UInt8) : Bool := decide (1 ≤ s.length ∧ s.length ≤ 16) && !digI (byteI (s.headD 0)) && s.all wordB

/-- A variable. -/
structure Vr where
  name : ByteArray
  lo : Int
  hi : Int
/-- A problem. -/
structure Mo where
  vars : List Vr
  cons : List Cn
  has : Bool
  goal : List (Int × Int)

def boundsB (lo hi : Int) : Bool := numB lo && numB hi && decide (lo ≤ hi ∧ hi - lo < 64)
def seenB (ahead : List Vr) (s : ByteArray) : Bool := ahead.any fun v => v.name.toList == s.toList
/-- A variable's fault, behind the others. -/
def varFault (v : Vr) (ahead : List Vr) : Int := if !nameB v.name.data.toList || seenB ahead v.name then 41 else if !boundsB v.lo v.hi then 42 else 0
def vFault (l : List Vr) (i : Nat) : Int := match l[i]? with | some v => varFault v (l.take i) | none => 0
def cFault (l : List Cn) (n : Int) (i : Nat) : Int := match l[i]? with | some c => fault c n | none => 0
def goalFault (m : Mo) : Int :=
  if m.has = false then (if 0 < m.goal.length then 48 else 0) else if fewB m.goal.length 64 then 47 else if !(m.goal.all fun t => plB m.vars.length t.2) then 44 else if !coefsB m.goal then 45 else 0
def firstBad (n : Nat) (f : Nat → Int) : Option Nat := (List.range n).find? fun i => f i != 0
/-- The first fault of a problem, and its place. -/
def check (m : Mo) : Int × Int :=
  if fewB m.vars.length 32 then (0, 40) else
  match firstBad m.vars.length (vFault m.vars) with
  | some i => ((i : Int), vFault m.vars i)
  | none =>
    if 64 < m.cons.length then ((m.vars.length : Int), 49) else
    match firstBad m.cons.length (cFault m.cons m.vars.length) with
    | some i => ((m.vars.length : Int) + (i : Int), cFault m.cons m.vars.length i)
    | none => if goalFault m = 0 then (0, 0) else ((m.vars.length : Int) + (m.cons.length : Int), goalFault m)

theorem firstBad_some {n : Nat} {f : Nat → Int} {i : Nat} (hi : i < n) (hb : f i ≠ 0) (h : ∀ j, j < i → f j = 0) : firstBad n f = some i := by
  unfold firstBad
  rw [List.find?_range_eq_some]
  exact ⟨by simpa using hb, by simpa using hi, fun j hj => by simpa using h j hj⟩
theorem firstBad_none {n : Nat} {f : Nat → Int} (h : ∀ j, j < n → f j = 0) : firstBad n f = none := by
  unfold firstBad
  rw [List.find?_eq_none]
  intro j hj
  simpa using h j (by simpa using hj)
theorem firstBad_none_iff {n : Nat} {f : Nat → Int} : firstBad n f = none → ∀ j, j < n → f j = 0 := by
  unfold firstBad
  rw [List.find?_eq_none]
  intro h j hj
  simpa using h j (by simpa using hj)
theorem vFault_get {l : List Vr} {i : Nat} (h : i < l.length) : vFault l i = varFault l[i] (l.take i) := by unfold vFault; rw [List.getElem?_eq_getElem h]
theorem cFault_get {l : List Cn} {n : Int} {i : Nat} (h : i < l.length) : cFault l n i = fault l[i] n := by unfold cFault; rw [List.getElem?_eq_getElem h]

/-- What a right problem has. -/
structure Right (m : Mo) : Prop where
  nv : 1 ≤ m.vars.length ∧ m.vars.length ≤ 32
  var : ∀ v ∈ m.vars, nameB v.name.data.toList = true ∧ boundsB v.lo v.hi = true
  nc : m.cons.length ≤ 64
  con : ∀ c ∈ m.cons, fault c m.vars.length = 0
  goal : goalFault m = 0
theorem right_of {m : Mo} (h : (check m).2 = 0) : Right m := by
  unfold check at h
  split at h
  · cases h
  rename_i h1
  have h1' : ¬ (m.vars.length < 1 ∨ 32 < m.vars.length) := by simpa [fewB] using h1
  split at h
  · rename_i i hi
    unfold firstBad at hi
    have := List.find?_some hi
    simp at this
    exact absurd h this
  rename_i h2
  split at h
  · cases h
  rename_i h3
  split at h
  · rename_i i hi
    unfold firstBad at hi
    have := List.find?_some hi
    simp at this
    exact absurd h this
  rename_i h4
  have h5 : goalFault m = 0 := by
    split at h
    · assumption
    · exact h
  refine ⟨by omega, fun v hv => ?_, by omega, fun c hc => ?_, h5⟩
  · obtain ⟨i, hi, rfl⟩ := List.getElem_of_mem hv
    have := firstBad_none_iff h2 i hi
    rw [vFault_get hi] at this
    unfold varFault at this
    split at this
    · cases this
    rename_i a
    split at this
    · cases this
    rename_i b
    simp at a b
    exact ⟨a.1, b⟩
  · obtain ⟨i, hi, rfl⟩ := List.getElem_of_mem hc
    have := firstBad_none_iff h4 i hi
    rwa [cFault_get hi] at this
theorem bounds_of {lo hi : Int} (h : boundsB lo hi = true) : (-1000000000 ≤ lo ∧ lo ≤ 1000000000) ∧ (-1000000000 ≤ hi ∧ hi ≤ 1000000000) ∧ lo ≤ hi ∧ hi - lo < 64 := by
  simp [boundsB, numB] at h
  omega
theorem goal_of {m : Mo} (h : goalFault m = 0) : (m.has = false → m.goal = []) ∧ m.goal.length ≤ 64 ∧ (∀ t ∈ m.goal, 0 ≤ t.2 ∧ t.2 < m.vars.length) ∧ ∀ t ∈ m.goal, t.1 ≠ 0 ∧ -1000000 ≤ t.1 ∧ t.1 ≤ 1000000 := by
  unfold goalFault at h
  split at h
  · split at h
    · cases h
    · rename_i h1 h2
      have : m.goal = [] := List.length_eq_zero_iff.1 (by omega)
      rw [this]; simp
  rename_i h0
  split at h
  · cases h
  rename_i h1
  split at h
  · cases h
  rename_i h2
  split at h
  · cases h
  rename_i h3
  simp only [fewB, decide_eq_true_eq] at h1
  simp only [plB, Bool.not_eq_true', Bool.not_eq_false, List.all_eq_true, decide_eq_true_eq] at h2
  simp only [coefsB, cfB, Bool.not_eq_true', Bool.not_eq_false, List.all_eq_true, decide_eq_true_eq] at h3
  exact ⟨fun h => absurd h h0, by omega, h2, h3⟩

/-- The product of the sizes. -/
def prod : List Vr → Int → Int → Option Int
  | [], _, n => some n
  | v :: l, most, n => if most.tdiv (v.hi - v.lo + 1) < n then none else prod l most (n * (v.hi - v.lo + 1))
def product (m : Mo) (most : Int) : Int × Bool :=
  if (check m).2 = 0 then (match prod m.vars most 1 with | some n => (n, true) | none => (0, false)) else (0, false)
def varAt (l : List Vr) (x : Int) : Vr := l.getD x.toNat ⟨⟨#[]⟩, 0, 0⟩
def lowS (l : List Vr) (t : List (Int × Int)) : Int := t.foldl (fun n t => n + (if 0 < t.1 then t.1 * (varAt l t.2).lo else t.1 * (varAt l t.2).hi)) 0
def topS (l : List Vr) (t : List (Int × Int)) : Int := t.foldl (fun n t => n + (if 0 < t.1 then t.1 * (varAt l t.2).hi else t.1 * (varAt l t.2).lo)) 0
def floor (m : Mo) : Int := if (check m).2 = 0 then lowS m.vars m.goal else 0
def ceil (m : Mo) : Int := if (check m).2 = 0 then topS m.vars m.goal else 0
def insideB : List Vr → List Int → Bool
  | [], [] => true
  | v :: l, x :: xs => decide (v.lo ≤ x ∧ x ≤ v.hi) && insideB l xs
  | _, _ => false
def solution (m : Mo) (vs : List Int) : Bool := decide ((check m).2 = 0) && insideB m.vars vs && m.cons.all fun c => hold c vs
def worth (m : Mo) (vs : List Int) : Int := if (check m).2 = 0 ∧ vs.length = m.vars.length ∧ vs.all numB = true then sum m.goal vs else 0
end Md
