/-
  The document's numbers: times.
-/
import Derived.Test.YtangepgiamhenaaDoorRefPlus
namespace Go.Proofs.YtangepgiamhenaaDoor
open Go.RowKit
open Bn (limbs)

theorem told_mid (f : Nat → Nat) (h : ∀ p, f p ≤ 999999998000000001) (k : Nat) : (told f k).2 ≤ 999999999 := by
  induction k with
  | zero => simp [told]
  | succ k ih => simp only [told]; have := h k; omega
theorem sumP_mulr (f : Nat → Nat) (c k : Nat) : sumP (fun p => f p * c) k = sumP f k * c := by
  induction k with
  | zero => simp [sumP]
  | succ k ih => simp only [sumP, ih, Nat.add_mul, Nat.mul_assoc]

set_option maxHeartbeats 1000000 in
set_option maxRecDepth 100000 in
/-- times. -/
theorem times_any (a : List Nat) (d : Nat) (va : Value) (w : World) (ha : IntsAt w va a) (hda : ∀ d ∈ a, d < 1000000000) (hd : d < 1000000000) (hla : a.length ≤ 5000000) :
    Calls Tryd.prog 63 #[va, .int .i64 (d : Int)] w fun e w' => ∃ v, e = .returned v ∧ IntsAt w' v (limbs (Bn.val a * d)) ∧ Below w.heap.size w w' := by
  obtain ⟨i0, hi, hz0, hz1, hz2⟩ := info_parts Tryd.info3
  obtain ⟨pa, ca, hva, _⟩ := ha.form
  subst hva
  have HA : Hid (∀ wr, Below w.heap.size w wr → IntsAt wr (.slice pa a.length ca) a) := fun wr h => ha.below h
  obtain ⟨f, hf⟩ : ∃ f : Nat → Nat, f = fun p => lAt a p * d := ⟨_, rfl⟩
  have hf0 : ∀ p, f p = lAt a p * d := fun p => by rw [hf]
  have hfs : ∀ p, f p ≤ 999999998000000001 := fun p => by
    have := lAt_lt hda p
    rw [hf0]; exact Nat.le_trans (Nat.mul_le_mul (show lAt a p ≤ 999999999 by omega) (show d ≤ 999999999 by omega)) (by decide)
  have HV : Hid (∀ k, a.length ≤ k → (told f k).2 = 0 → Bn.val (told f k).1 = Bn.val a * d) := by
    intro k hk h0
    have h := told_val f k
    rw [h0, Nat.mul_zero, Nat.add_zero] at h
    rw [h, hf, sumP_mulr, sumP_all hk]
  have HF : Hid (∀ p, f p = lAt a p * d) := hf0
  clear ha hf hf0
  go_enter Tryd.func63, Tryd.ntmps63
  go_wp2
  go_loopw [5, 6, 7] (fun ov cv iv wr => ∃ k : Nat, iv = .int .i64 (k : Int) ∧ k ≤ a.length + 1 ∧ cv = .int .i64 (((told f k).2 : Nat) : Int) ∧ (k = a.length + 1 → (told f k).2 = 0) ∧ wr.ownsRow w.heap.size 3 1 ov (told f k).1.length (cellsOf (told f k).1) ∧ Below w.heap.size w wr) (fun _ _ iv _ => a.length + 2 - (intOf iv).toNat)
  case atStart => exact ⟨0, rfl, by omega, rfl, fun _ => rfl, World.ownsRow_nil _ _ _ _, Below.refl _ _⟩
  case round =>
    obtain ⟨k, rfl, hk, rfl, hk0, hown, hbel⟩ := hrel
    have hc := told_mid f hfs k
    have hlen := told_length f k
    have hxb := lAt_lt hda k
    have HN : Hid (told f (k + 1) = ((told f k).1 ++ [((told f k).2 + lAt a k * d) % 1000000000], ((told f k).2 + lAt a k * d) / 1000000000)) := by show _ = _; rw [← HF.out k]; rfl
    have HZ : Hid (k = a.length → (told f (k + 1)).2 = 0) := by
      intro h
      rw [HN.out, lAt_past (l := a) (by omega), Nat.zero_mul]
      show ((told f k).2 + 0) / 1000000000 = 0
      omega
    have HE : Hid (a.length ≤ k → (told f k).2 = 0 → Bn.val (told f k).1 = Bn.val a * d) := HV.out k
    have HLd : Hid (∀ d ∈ (told f k).1, d < 1000000000) := told_lt f k
    generalize (told f k).1 = L at *
    generalize (told f k).2 = c at *
    by_cases hka : k < a.length
    · have hkn : k ≤ a.length := by omega
      obtain ⟨ba, rfl, hca⟩ := ints_at (HA.out wr hbel) rfl hka
      have hkaI : (k : Int) < (a.length : Int) := by omega
      obtain ⟨x, ex⟩ : ∃ x, x = lAt a k := ⟨_, rfl⟩
      rw [← ex] at hxb HN hca
      obtain ⟨m, em⟩ : ∃ m, m = x * d := ⟨_, rfl⟩
      have hmul : (x : Int) * (d : Int) = (m : Int) := by rw [em]; simp
      have hm : m ≤ 999999998000000001 := by
        rw [em]; exact Nat.le_trans (Nat.mul_le_mul (show x ≤ 999999999 by omega) (show d ≤ 999999999 by omega)) (by decide)
      rw [← em] at HN
      clear em ex
      go_wp2_with (at_builtin; refine append_one wr rfl _ _ 28 rfl w.heap.size 3 i0 .i64 8 Tryd.underlying28 hi hz0 hz1 hz2 _ _ _ (by rfl) hown _ _ rfl (by rfl) (by omega) (by decide) hbel.size ?_; intro v' w1 hown1 hgrow)
      have R := ints_rel (d := (c + m) % 1000000000) (by omega) hown hbel hbel.size hown1 hgrow
      have HR : Hid (w1.ownsRow w.heap.size 3 1 v' (L ++ [(c + m) % 1000000000]).length (cellsOf (L ++ [(c + m) % 1000000000])) ∧ Below w.heap.size w w1) := R
      clear R hown hown1 hgrow
      go_wp2
      go_roundw
      case rel =>
        refine ⟨k + 1, by go_num, by omega, ?_, ?_, ?_, HR.out.2⟩
        · rw [HN.out]; congr 1 <;> omega
        · intro h; exact HZ.out (by omega)
        · rw [HN.out]; exact HR.out.1
      case measure => simp [intOf]; omega
    · by_cases hc0 : c = 0
      · have HEE : Hid (Bn.val L = Bn.val a * d) := HE.out (by omega) hc0
        subst hc0
        have hkaI : ¬ (k : Int) < (a.length : Int) := by omega
        have HS : Hid (Calls Tryd.prog 62 #[u5] wr fun e w' => ∃ v', e = .returned v' ∧ IntsAt w' v' (limbs (Bn.val a * d)) ∧ Below w.heap.size w w') := by
          refine (refSize_any L _ wr (IntsAt.of_owns hown) HLd.out).mono ?_
          rintro e w' ⟨v', h1, h2, rfl, _⟩
          rw [trim_eq _ HLd.out, HEE.out] at h2
          exact ⟨v', h1, h2, hbel⟩
        obtain ⟨pv, cv, hov⟩ := own_form hown
        subst hov
        clear hlen
        go_wp2_with fail
        refine HS.out.mono ?_
        rintro e w1 ⟨v', rfl, hI, hb1⟩
        go_wp2
        go_ret
        exact ⟨_, rfl, hI, hb1⟩
      · have hkn : k ≤ a.length := by
          rcases Nat.lt_or_ge a.length k with h | h
          · exact absurd (hk0 (by omega)) hc0
          · exact h
        have hkaI : ¬ (k : Int) < (a.length : Int) := by omega
        rw [lAt_past (l := a) (by omega), Nat.zero_mul] at HN
        have hcI : (0 : Int) < (c : Int) := by omega
        go_wp2_with (at_builtin; refine append_one wr rfl _ _ 28 rfl w.heap.size 3 i0 .i64 8 Tryd.underlying28 hi hz0 hz1 hz2 _ _ _ (by rfl) hown _ _ rfl (by rfl) (by omega) (by decide) hbel.size ?_; intro v' w1 hown1 hgrow)
        have R := ints_rel (d := (c + 0) % 1000000000) (by omega) hown hbel hbel.size hown1 hgrow
        have HR : Hid (w1.ownsRow w.heap.size 3 1 v' (L ++ [(c + 0) % 1000000000]).length (cellsOf (L ++ [(c + 0) % 1000000000])) ∧ Below w.heap.size w w1) := R
        clear R hown hown1 hgrow
        go_wp2
        go_roundw
        case rel =>
          refine ⟨k + 1, by go_num, by omega, ?_, ?_, ?_, HR.out.2⟩
          · rw [HN.out]; congr 1 <;> omega
          · intro h; exact HZ.out (by omega)
          · rw [HN.out]; exact HR.out.1
        case measure => simp [intOf]; omega

end Go.Proofs.YtangepgiamhenaaDoor
