/-
  Package big: guess.
-/
import Derived.Test.YtangepgiamhenaaDoorGive
import Derived.Test.YtangepgiamhenaaDoorDivMath
namespace Go.Proofs.YtangepgiamhenaaDoor
open Go.RowKit
open Bn (limbs)

set_option maxHeartbeats 2000000 in
set_option maxRecDepth 100000 in
/-- guess: how often the last two limbs go into the last three. -/
theorem guess_row (m u2 u1 u0 v1 v0 lead U V : Nat) (ba oa bb ob capa capb : Nat) (w : World)
    (HU : Hid (U = lead * 1000000000 + u0)) (HV : Hid (V = v1 * 1000000000 + v0)) (HL : Hid (lead = u2 * 1000000000 + u1)) (hv : 1 ≤ v1) (h2 : u2 ≤ v1) (h1 : u1 < 1000000000) (h0 : u0 < 1000000000) (hv1 : v1 < 1000000000) (hv0 : v0 < 1000000000)
    (ca2 : w.cell? ⟨ba, oa + (m + 2), none⟩ = some (.int .u32 (u2 : Int))) (ca1 : w.cell? ⟨ba, oa + (m + 1), none⟩ = some (.int .u32 (u1 : Int))) (ca0 : w.cell? ⟨ba, oa + m, none⟩ = some (.int .u32 (u0 : Int)))
    (cb1 : w.cell? ⟨bb, ob + (m + 1), none⟩ = some (.int .u32 (v1 : Int))) (cb0 : w.cell? ⟨bb, ob + m, none⟩ = some (.int .u32 (v0 : Int))) (hm : m ≤ 10000000) :
    Calls Tryd.prog 95 #[.slice (some ⟨ba, oa, none⟩) (m + 3) capa, .slice (some ⟨bb, ob, none⟩) (m + 2) capb] w fun e w' => e = .returned (.int .u64 ((U / V : Nat) : Int)) ∧ w'.heap = w.heap ∧ Below w.heap.size w w' := by
  have eL : (u2 : Int) * 1000000000 + (u1 : Int) = (lead : Int) := by rw [HL.out]; simp
  have hlead : lead < 1000000001000000000 := by rw [HL.out]; omega
  have hvI : (0 : Int) < (v1 : Int) := by omega
  go_enter Tryd.func95, Tryd.ntmps95
  go_wp2
  go_region
  go_wp2
  go_region
  go_wp2
  go_region
  have eQ : IntKind.u64.wrap ((lead : Int) / (v1 : Int)) = ((lead / v1 : Nat) : Int) := by
    have h := Nat.div_le_self lead v1
    rw [show (lead : Int) / (v1 : Int) = ((lead / v1 : Nat) : Int) from rfl, IntKind.wrap_u64]
    generalize lead / v1 = q at *
    omega
  have eR : (lead : Int) % (v1 : Int) = ((lead % v1 : Nat) : Int) := rfl
  have HE : Hid (lead / v1 * v1 + lead % v1 = lead) := Nat.div_add_mod' lead v1
  obtain ⟨i1, i2⟩ := guess_init HL.out HU.out HV.out hv h2 h1 h0
  have i3 : lead % v1 < v1 := Nat.mod_lt _ hv
  rw [eQ, eR]
  generalize lead / v1 = t0 at *
  generalize lead % v1 = l0 at *
  clear eQ eR
  go_wp2
  go_loopw [9, 10] (fun tv lv wr => ∃ t l : Nat, tv = .int .u64 (t : Int) ∧ lv = .int .u64 (l : Int) ∧ Hid (t * v1 + l = lead) ∧ U / V ≤ t ∧ t ≤ 2000000000 ∧ l ≤ 3000000000 ∧ wr.heap = w.heap ∧ Below w.heap.size w wr) (fun tv _ _ => (intOf tv).toNat)
  case atStart => exact ⟨t0, l0, rfl, rfl, HE, i1, i2, by omega, rfl, ((Below.refl _ _).drew.drew.drew)⟩
  case round =>
    obtain ⟨t, l, rfl, rfl, HT, g1, g2, g3, hh, hbel⟩ := hrel
    have ca0' : wr.cell? ⟨ba, oa + m, none⟩ = some (.int .u32 (u0 : Int)) := (World.cell?_of_block (a := ⟨ba, oa + m, none⟩) (by rw [hh])).trans ca0
    obtain ⟨mm, em⟩ : ∃ mm, mm = t * v0 := ⟨_, rfl⟩
    have hmul : (t : Int) * (v0 : Int) = (mm : Int) := by rw [em]; simp
    have hmm : mm ≤ 2000000000000000000 := by
      rw [em]; exact Nat.le_trans (Nat.mul_le_mul g2 (Nat.le_of_lt hv0)) (by decide)
    have EM : Hid (mm = t * v0) := em
    have HG : Hid (U / V ≤ t) := g1
    clear ca0 ca1 ca2 cb0 cb1 em g1
    by_cases hgt : l * 1000000000 + u0 < mm
    · obtain ⟨s1, s2, s3⟩ := guess_step HU.out HV.out hv HT.out EM.out hgt
      have S1 : Hid (U / V ≤ t - 1) := s1
      have S2 : Hid ((t - 1) * v1 + (l + v1) = lead) := s2
      clear s1 s2
      go_wp2
      go_roundw
      case rel => exact ⟨t - 1, l + v1, by go_num, by go_num, S2, S1.out, by omega, by omega, hh, hbel⟩
      case measure => simp [intOf]; omega
    · have HD : Hid (t = U / V) := guess_done HU.out HV.out hv HT.out EM.out (by omega) HG.out
      go_wp2
      go_ret
      exact ⟨ret_int (congrArg Int.ofNat HD.out), hh, hbel⟩
end Go.Proofs.YtangepgiamhenaaDoor
