/-
  Package big: column.
-/
import Derived.Test.YtangepgiamhenaaDoorAddLimbs
namespace Go.Proofs.YtangepgiamhenaaDoor
open Go.RowKit
open Bn (limbs)

theorem col_num {hi lo m s c : Nat} (hs : s = (lo + m) % 18446744073709551616) (hc : c = (lo + m) / 18446744073709551616) : (hi + c) * 18446744073709551616 + s = hi * 18446744073709551616 + lo + m := by
  rw [Nat.add_mul]
  have h := Nat.div_add_mod (lo + m) 18446744073709551616
  rw [← hs, ← hc, Nat.mul_comm] at h
  rw [Nat.add_assoc, h, Nat.add_assoc]

set_option maxRecDepth 100000 in
set_option maxHeartbeats 1000000 in
/-- column. -/
theorem column_any (a b : List Nat) (p : Nat) (va vb : Value) (w : World) (ha : U32At w va a) (hb : U32At w vb b) (hda : ∀ d ∈ a, d < 1000000000) (hdb : ∀ d ∈ b, d < 1000000000) (hla : a.length ≤ 5000000) (hlb : b.length ≤ 5000000) (hp : p ≤ 10000000) :
    Calls Tryd.prog 80 #[va, vb, .int .i64 (p : Int)] w fun e w' => ∃ hi lo : Nat, e = .returned (.tuple #[.int .u64 (hi : Int), .int .u64 (lo : Int)]) ∧ hi * 18446744073709551616 + lo = conv a b p ∧ lo < 18446744073709551616 ∧ Below w.heap.size w w' := by
  have HA : Hid (U32At w va a) := ha
  have HB : Hid (U32At w vb b) := hb
  obtain ⟨pa, ca, rfl, hma⟩ := ha.form
  obtain ⟨pb, cb, rfl, hmb⟩ := hb.form
  have hi0 : ∃ i0 : Nat, max 0 ((p : Int) - (b.length : Int) + 1) = (i0 : Int) ∧ (i0 = 0 ∨ i0 + b.length ≤ p + 1) ∧ p + 1 ≤ i0 + b.length := ⟨p + 1 - b.length, by omega, by omega, by omega⟩
  obtain ⟨i0, hi1, hi2, hi3⟩ := hi0
  have H0 : Hid (psum a b p i0 = 0) := by
    show _ = _
    rcases hi2 with h | h
    · rw [h]; rfl
    · exact psum_lo a b p i0 h
  clear ha hb
  go_enter Tryd.func80, Tryd.ntmps80
  go_wp2
  go_loopw [6, 7, 8] (fun hv lv iv wr => ∃ i hi lo : Nat, iv = .int .i64 (i : Int) ∧ hv = .int .u64 (hi : Int) ∧ lv = .int .u64 (lo : Int) ∧ Hid (hi * 18446744073709551616 + lo = psum a b p i) ∧ lo < 18446744073709551616 ∧ (i ≤ min (p + 1) a.length ∨ i + b.length ≤ p + 1) ∧ p + 1 ≤ i + b.length ∧ i ≤ 10000001 ∧ Below w.heap.size w wr) (fun _ _ iv _ => 10000001 - (intOf iv).toNat)
  case atStart => exact ⟨i0, 0, 0, rfl, rfl, rfl, by show _ = _; rw [H0.out], by omega, by omega, hi3, by omega, Below.refl _ _⟩
  case round =>
    clear hi1 hi2 hi3 H0
    obtain ⟨i, hi, lo, rfl, rfl, rfl, hH, hlo, h1, h2, h3, hbel⟩ := hrel
    by_cases hlt : i < min (p + 1) a.length
    · have hcI : (i : Int) < min ((p : Int) + 1) (a.length : Int) := by omega
      obtain ⟨j, hj⟩ : ∃ j, j = p - i := ⟨_, rfl⟩
      have hjI : (p : Int) - (i : Int) = (j : Int) := by omega
      have hia : i < a.length := by omega
      have hjb : j < b.length := by omega
      obtain ⟨ba, oa, ca', hva, hba, _, _, hca⟩ := HA.out.pos (by omega)
      obtain ⟨bb, ob, cb', hvb, hbb, _, _, hcb⟩ := HB.out.pos (by omega)
      injection hva with e1 _ e3
      injection hvb with e4 _ e6
      subst e1 e3 e4 e6
      have k1 : wr.cell? ⟨ba, oa + i, none⟩ = some (.int .u32 ((lAt a i : Nat) : Int)) := by rw [lAt_get hia]; exact (hbel.cell (p := ⟨ba, oa + i, none⟩) hba).trans (hca i hia)
      have k2 : wr.cell? ⟨bb, ob + j, none⟩ = some (.int .u32 ((lAt b j : Nat) : Int)) := by rw [lAt_get hjb]; exact (hbel.cell (p := ⟨bb, ob + j, none⟩) hbb).trans (hcb j hjb)
      have u1 := lAt_lt hda i
      have u2 := lAt_lt hdb j
      have hps := psum_le a b hda hdb p i
      have hH' := hH.out
      have hhi : hi ≤ 1000000 := by omega
      have HN : Hid (psum a b p (i + 1) = psum a b p i + lAt a i * lAt b j) := by show _ = _; rw [psum, if_pos (by omega), ← hj]
      have hiI : (i : Int) < (a.length : Int) := by omega
      have hjI2 : (j : Int) < (b.length : Int) := by omega
      generalize lAt a i = u at *
      generalize lAt b j = v at *
      obtain ⟨m, hm⟩ : ∃ m, m = u * v := ⟨_, rfl⟩
      have hmul : (u : Int) * (v : Int) = (m : Int) := by rw [hm]; simp
      have hmb2 : m ≤ 1000000000000000000 := by rw [hm]; exact Nat.le_trans (Nat.mul_le_mul (Nat.le_of_lt u1) (Nat.le_of_lt u2)) (by decide)
      rw [← hm] at HN
      obtain ⟨s, hs⟩ : ∃ s : Nat, s = (lo + m) % 18446744073709551616 := ⟨_, rfl⟩
      obtain ⟨c, hc⟩ : ∃ c : Nat, c = (lo + m) / 18446744073709551616 := ⟨_, rfl⟩
      have hadd : ∀ w, (callFunc 93 #[.int .u64 (lo : Int), .int .u64 (m : Int), .int .u64 0]).run Tryd.prog w = .ok (.value (.tuple #[.int .u64 (s : Int), .int .u64 (c : Int)])) w := by
        have e1 : ((lo : Int) + (m : Int)) % 18446744073709551616 = (s : Int) := by omega
        have e2 : ((lo : Int) + (m : Int)) / 18446744073709551616 = (c : Int) := by omega
        intro w
        have h := add64 (lo : Int) (m : Int) (Int.natCast_nonneg lo) (Int.natCast_nonneg m) w
        simp only [e1, e2] at h
        exact h
      have HS : Hid ((hi + c) * 18446744073709551616 + s = psum a b p (i + 1)) := by show _ = _; rw [HN.out, ← hH', col_num hs hc]
      have hsb : s < 18446744073709551616 := by omega
      have hcb1 : c ≤ 1 := by omega
      clear hH hH' HN hm hs hc hps hj hca hcb
      go_wp2
      go_quiet (fail)
      go_wp2
      go_roundw
      case rel => exact ⟨i + 1, hi + c, s, by go_num, by rw [Int.natCast_add], rfl, HS.out, hsb, .inl (by omega), by omega, by omega, below_drewN hbel _⟩
      case measure => simp [intOf]; omega
    · have hcI : ¬ (i : Int) < min ((p : Int) + 1) (a.length : Int) := by omega
      have HF : Hid (hi * 18446744073709551616 + lo = conv a b p) := by
        show _ = _
        rw [hH.out, conv_min]
        rcases h1 with h | h
        · rw [show i = min (p + 1) a.length from by omega]
        · rw [psum_lo a b p i h, psum_lo a b p (min (p + 1) a.length) (by omega)]
      clear hH
      go_wp2
      go_ret2
      exact ⟨hi, lo, rfl, HF.out, hlo, hbel⟩
end Go.Proofs.YtangepgiamhenaaDoor
