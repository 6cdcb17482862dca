/-
  The document's side of package model: numbers, terms, sum.
-/
import Derived.Test.YtmhfabnpfkkbcaaGreatMdHoldsA
namespace Go.Proofs.YtmhfabnpfkkbcaaGreat
open Go.RowKit

set_option maxHeartbeats 400000 in
theorem numbers_any (v : Value) (l : List Int) (w : World) (h : IntsAt w v l) : Calls Tryz.prog 53 #[v] w fun e w' => e = .returned (.bool (l.all Md.numB)) ∧ w' = w := by
  obtain ⟨a, cap, rfl, hm, hc⟩ := h
  unfold maxLen at hm
  have HC : Hid (0 < l.length → ∃ b off, a = some ⟨b, off, none⟩ ∧ b < w.heap.size ∧ ∀ j (h : j < l.length), w.cell? ⟨b, off + j, none⟩ = some (.int .i64 l[j])) := hc
  have H0 : Hid ((l.take 0).all Md.numB = true) := by show _ = _; simp
  clear hc
  go_enter Tryz.func53, Tryz.ntmps53
  go_wp2
  go_loop [3] (fun iv => ∃ k : Nat, iv = .int .i64 (k : Int) ∧ k ≤ l.length ∧ Hid ((l.take k).all Md.numB = true)) (fun iv => l.length - (intOf iv).toNat)
  case atStart => exact ⟨0, rfl, Nat.zero_le _, H0⟩
  case round =>
    obtain ⟨k, rfl, hk, hA⟩ := hrel
    clear H0
    by_cases hlt : k < l.length
    · obtain ⟨b, off, rfl, hb, hc⟩ := HC.out (by omega)
      have hcell := hc k hlt
      have hkI : (k : Int) < (l.length : Int) := by omega
      clear hc
      cases hp : Md.numB l[k]
      · have hres : Hid (l.all Md.numB = false) := Md.all_stop hlt hp
        generalize l[k] = x at *
        go_wp2_with (go_at_call 89; refine (number_any _ _).mono ?_; rintro e w' ⟨rfl, rfl⟩)
        go_ret
        exact ⟨ret_bool hres.out.symm, rfl⟩
      · have hres : Hid ((l.take (k + 1)).all Md.numB = true) := Md.all_next hA.out hlt hp
        generalize l[k] = x at *
        go_wp2_with (go_at_call 89; refine (number_any _ _).mono ?_; rintro e w' ⟨rfl, rfl⟩)
        go_round
        case rel => exact ⟨k + 1, by go_num, by omega, hres⟩
        case measure => simp [intOf]; omega
    · have hkI : ¬ (k : Int) < (l.length : Int) := by omega
      have hres : Hid (l.all Md.numB = true) := Md.all_done hA.out (by omega)
      go_wp2
      go_ret
      exact ⟨ret_bool hres.out.symm, rfl⟩

/-- What terms answers. -/
def termsE (l : List (Int × Int)) (n : Int) : Int := if (l.all fun t => Md.plB n t.2) = true then (if Md.coefsB l = true then 0 else 45) else 44

set_option maxHeartbeats 1000000 in
theorem terms_any (v : Value) (l : List (Int × Int)) (n : Int) (w : World) (h : TermsAt w v l) : Calls Tryz.prog 37 #[v, .int .i64 n] w fun e w' => e = .returned (.int .i64 (termsE l n)) ∧ w' = w := by
  obtain ⟨a, cap, rfl, hm, hc⟩ := h
  unfold maxLen at hm
  have HC : Hid (0 < l.length → ∃ b off, a = some ⟨b, off, none⟩ ∧ b < w.heap.size ∧ ∀ j (h : j < l.length), w.cell? ⟨b, off + j * 2, none⟩ = some (.int .i64 l[j].1) ∧ w.cell? ⟨b, off + j * 2 + 1, none⟩ = some (.int .i64 l[j].2)) := hc
  clear hc
  go_enter Tryz.func37, Tryz.ntmps37
  go_wp2
  go_loop [5] (fun iv => ∃ k : Nat, iv = .int .i64 (k : Int) ∧ k ≤ l.length ∧ Hid ((l.take k).all (fun t => Md.plB n t.2) = true)) (fun iv => l.length - (intOf iv).toNat)
  case atStart => exact ⟨0, rfl, Nat.zero_le _, (show _ = _ by simp)⟩
  case round =>
    obtain ⟨k, rfl, hk, hA⟩ := hrel
    by_cases hlt : k < l.length
    · obtain ⟨b, off, rfl, hb, hc⟩ := HC.out (by omega)
      obtain ⟨_, c2⟩ := hc k hlt
      have hkI : (k : Int) < (l.length : Int) := by omega
      clear hc
      by_cases h1 : l[k].2 < 0
      · have hres : Hid (termsE l n = 44) := by
          have := Md.all_stop (p := fun t => Md.plB n t.2) hlt (decide_eq_false (by omega))
          show _ = _
          unfold termsE; rw [this]; rfl
        generalize l[k].2 = x at *
        go_wp2
        go_ret
        exact ⟨ret_int hres.out.symm, rfl⟩
      · by_cases h2 : n ≤ l[k].2
        · have hres : Hid (termsE l n = 44) := by
            have := Md.all_stop (p := fun t => Md.plB n t.2) hlt (decide_eq_false (by omega))
            show _ = _
            unfold termsE; rw [this]; rfl
          generalize l[k].2 = x at *
          go_wp2
          go_ret
          exact ⟨ret_int hres.out.symm, rfl⟩
        · have hres : Hid ((l.take (k + 1)).all (fun t => Md.plB n t.2) = true) := Md.all_next hA.out hlt (decide_eq_true (by omega))
          generalize l[k].2 = x at *
          go_wp2
          go_round
          case rel => exact ⟨k + 1, by go_num, by omega, hres⟩
          case measure => simp [intOf]; omega
    · have hkI : ¬ (k : Int) < (l.length : Int) := by omega
      have hall : Hid ((l.all fun t => Md.plB n t.2) = true) := Md.all_done hA.out (by omega)
      go_wp2
      go_loop [6] (fun iv => ∃ k : Nat, iv = .int .i64 (k : Int) ∧ k ≤ l.length ∧ Hid ((l.take k).all (fun t => Md.cfB t.1) = true)) (fun iv => l.length - (intOf iv).toNat)
      case atStart => exact ⟨0, rfl, Nat.zero_le _, (show _ = _ by simp)⟩
      case round =>
        obtain ⟨k2, rfl, hk2, hA2⟩ := hrel
        by_cases hlt2 : k2 < l.length
        · obtain ⟨b, off, rfl, hb, hc⟩ := HC.out (by omega)
          obtain ⟨c1, _⟩ := hc k2 hlt2
          have hkI2 : (k2 : Int) < (l.length : Int) := by omega
          clear hc
          cases hp : Md.cfB l[k2].1
          · have hres : Hid (termsE l n = 45) := by
              have h3 : Md.coefsB l = false := by unfold Md.coefsB; exact Md.all_stop hlt2 hp
              show _ = _
              unfold termsE; rw [hall.out, h3]; rfl
            generalize l[k2].1 = x at *
            go_wp2_with (go_at_call 90; refine (coef_any _ _).mono ?_; rintro e w' ⟨rfl, rfl⟩)
            go_ret
            exact ⟨ret_int hres.out.symm, rfl⟩
          · have hres : Hid ((l.take (k2 + 1)).all (fun t => Md.cfB t.1) = true) := Md.all_next hA2.out hlt2 hp
            generalize l[k2].1 = x at *
            go_wp2_with (go_at_call 90; refine (coef_any _ _).mono ?_; rintro e w' ⟨rfl, rfl⟩)
            go_round
            case rel => exact ⟨k2 + 1, by go_num, by omega, hres⟩
            case measure => simp [intOf]; omega
        · have hkI2 : ¬ (k2 : Int) < (l.length : Int) := by omega
          have hres : Hid (termsE l n = 0) := by
            have h3 : Md.coefsB l = true := by unfold Md.coefsB; exact Md.all_done hA2.out (by omega)
            show _ = _
            unfold termsE; rw [hall.out, h3]; rfl
          go_wp2
          go_ret
          exact ⟨ret_int hres.out.symm, rfl⟩

set_option maxRecDepth 10000 in
set_option maxHeartbeats 1000000 in
theorem refSum_any (vt vv : Value) (t : List (Int × Int)) (vs : List Int) (w : World) (ht : TermsAt w vt t) (hv : IntsAt w vv vs) (hn : vs.all Md.numB = true) (hx : ∀ x ∈ t, 0 ≤ x.2 ∧ x.2 < vs.length) (hc : ∀ x ∈ t, -1000000 ≤ x.1 ∧ x.1 ≤ 1000000) (hl : t.length ≤ 64) :
    Calls Tryz.prog 54 #[vt, vv] w fun e w' => e = .returned (.int .i64 (Md.sum t vs)) ∧ Below w.heap.size w w' := by
  have HT : Hid (TermsAt w vt t) := ht
  have HV : Hid (IntsAt w vv vs) := hv
  have HN : Hid (vs.all Md.numB = true) := hn
  have HX : Hid (∀ x ∈ t, 0 ≤ x.2 ∧ x.2 < vs.length) := hx
  have HC : Hid (∀ x ∈ t, -1000000 ≤ x.1 ∧ x.1 ≤ 1000000) := hc
  obtain ⟨ta, tc, rfl, hm, _⟩ := ht
  obtain ⟨va, vc, rfl, _⟩ := hv
  clear hn hx hc hm
  go_enter Tryz.func54, Tryz.ntmps54
  go_wp2
  go_loopw [5, 6] (fun sv iv wr => ∃ k : Nat, iv = .int .i64 (k : Int) ∧ k ≤ t.length ∧ sv = .int .i64 (Md.sum (t.take k) vs) ∧ Hid (Below w.heap.size w wr)) (fun _ iv _ => t.length - (intOf iv).toNat)
  case atStart => exact ⟨0, rfl, Nat.zero_le _, by simp [Md.sum], Below.refl _ _⟩
  case round =>
    obtain ⟨k, rfl, hk, rfl, hB⟩ := hrel
    by_cases hlt : k < t.length
    · have hkI : (k : Int) < (t.length : Int) := by omega
      have hxk := HX.out _ (List.getElem_mem hlt)
      have hck := HC.out _ (List.getElem_mem hlt)
      obtain ⟨ta', tc', hte, _, hto⟩ := HT.out
      obtain ⟨b, off, hta, hb, hcell⟩ := hto (by omega)
      injection hte with e4 e5 e6
      rw [← e4] at hta
      subst hta
      obtain ⟨bv, offv, cv, hve, hbv, hmv, hvc⟩ := HV.out.open (by omega)
      injection hve with e1 e2 e3
      subst e1 e3
      obtain ⟨c1, c2⟩ := hcell k hlt
      obtain ⟨m, hm⟩ : ∃ m : Nat, t[k].2 = (m : Int) := ⟨t[k].2.toNat, by omega⟩
      have hmn : m < vs.length := by omega
      have hmI : (m : Int) < (vs.length : Int) := by omega
      have hcv := (hB.out.cell (p := ⟨bv, offv + m, none⟩) hbv).trans (hvc m hmn)
      have d1 := (hB.out.cell (p := ⟨b, off + k * 2, none⟩) hb).trans c1
      have d2 := (hB.out.cell (p := ⟨b, off + k * 2 + 1, none⟩) hb).trans c2
      have hval := Md.val_mem HN.out (m : Int)
      have hmul := Md.mul_bd hck.1 hck.2 hval.1 hval.2
      have hsb := Md.sum_bd HN.out HC.out k (by omega)
      have hw1 : IntKind.i64.wrap (t[k].1 * Md.val vs (m : Int)) = t[k].1 * Md.val vs (m : Int) := wrap_ok (by omega) (by omega)
      have hw2 : IntKind.i64.wrap (Md.sum (t.take k) vs + t[k].1 * Md.val vs (m : Int)) = Md.sum (t.take k) vs + t[k].1 * Md.val vs (m : Int) := wrap_ok (by omega) (by omega)
      have hnx : Hid (Md.sum (t.take (k + 1)) vs = Md.sum (t.take k) vs + t[k].1 * Md.val vs (m : Int)) := by show _ = _; rw [Md.sum_next hlt, hm]
      rw [hm] at d2
      clear hvc hcell c1 c2 hsb hmul hval hxk hck hm e2 hto e4 e5 e6
      generalize t[k].1 = tc1 at *
      generalize Md.val vs (m : Int) = y at *
      generalize Md.sum (t.take k) vs = s at *
      go_wp2
      go_quiet (fail)
      go_wp2
      go_roundw
      case rel => exact ⟨k + 1, by go_num, by omega, by rw [hnx.out], below_drewN hB.out _⟩
      case measure => simp [intOf]; omega
    · have hkI : ¬ (k : Int) < (t.length : Int) := by omega
      have hte : t.take k = t := List.take_of_length_le (by omega)
      rw [hte]
      clear hte
      go_wp2
      go_ret
      exact ⟨rfl, hB.out⟩
end Go.Proofs.YtmhfabnpfkkbcaaGreat
