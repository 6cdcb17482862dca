/-
  Put together: MdRefA, MdRefB.
-/
import Derived.Test.YtmhfabnpfkkbcaaGreatMdHoldsA
namespace Go.Proofs.YtmhfabnpfkkbcaaGreat
open Go.RowKit

set_option maxHeartbeats 400000 in
theorem numbers_any (v : Value) (l : List Int) (w : World) (h : IntsAt w v l) : Calls Tryz.prog 53 #[v] w fun e w' => e = .returned (.bool (l.all Md.numB)) ∧ w' = w := by
  obtain ⟨a, cap, rfl, hm, hc⟩ := h
  unfold maxLen at hm
  have HC : Hid (0 < l.length → ∃ b off, a = some ⟨b, off, none⟩ ∧ b < w.heap.size ∧ ∀ j (h : j < l.length), w.cell? ⟨b, off + j, none⟩ = some (.int .i64 l[j])) := hc
  have H0 : Hid ((l.take 0).all Md.numB = true) := by show _ = _; simp
  clear hc
  go_enter Tryz.func53, Tryz.ntmps53
  go_wp2
  go_loop [3] (fun iv => ∃ k : Nat, iv = .int .i64 (k : Int) ∧ k ≤ l.length ∧ Hid ((l.take k).all Md.numB = true)) (fun iv => l.length - (intOf iv).toNat)
  case atStart => exact ⟨0, rfl, Nat.zero_le _, H0⟩
  case round =>
    obtain ⟨k, rfl, hk, hA⟩ := hrel
    clear H0
    by_cases hlt : k < l.length
    · obtain ⟨b, off, rfl, hb, hc⟩ := HC.out (by omega)
      have hcell := hc k hlt
      have hkI : (k : Int) < (l.length : Int) := by omega
      clear hc
      cases hp : Md.numB l[k]
      · have hres : Hid (l.all Md.numB = false) := Md.all_stop hlt hp
        generalize l[k] = x at *
        go_wp2_with (go_at_call 89; refine (number_any _ _).mono ?_; rintro e w' ⟨rfl, rfl⟩)
        go_ret
        exact ⟨ret_bool hres.out.symm, rfl⟩
      · have hres : Hid ((l.take (k + 1)).all Md.numB = true) := Md.all_next hA.out hlt hp
        generalize l[k] = x at *
        go_wp2_with (go_at_call 89; refine (number_any _ _).mono ?_; rintro e w' ⟨rfl, rfl⟩)
        go_round
        case rel => exact ⟨k + 1, by go_num, by omega, hres⟩
        case measure => simp [intOf]; omega
    · have hkI : ¬ (k : Int) < (l.length : Int) := by omega
      have hres : Hid (l.all Md.numB = true) := Md.all_done hA.out (by omega)
      go_wp2
      go_ret
      exact ⟨ret_bool hres.out.symm, rfl⟩

/-- What terms answers. -/
def termsE (l : List (Int × Int)) (n : Int) : Int := if (l.all fun t => Md.plB n t.2) = true then (if Md.coefsB l = true then 0 else 45) else 44

set_option maxHeartbeats 1000000 in
theorem terms_any (v : Value) (l : List (Int × Int)) (n : Int) (w : World) (h : TermsAt w v l) : Calls Tryz.prog 37 #[v, .int .i64 n] w fun e w' => e = .returned (.int .i64 (termsE l n)) ∧ w' = w := by
  obtain ⟨a, cap, rfl, hm, hc⟩ := h
  unfold maxLen at hm
  have HC : Hid (0 < l.length → ∃ b off, a = some ⟨b, off, none⟩ ∧ b < w.heap.size ∧ ∀ j (h : j < l.length), w.cell? ⟨b, off + j * 2, none⟩ = some (.int .i64 l[j].1) ∧ w.cell? ⟨b, off + j * 2 + 1, none⟩ = some (.int .i64 l[j].2)) := hc
  clear hc
  go_enter Tryz.func37, Tryz.ntmps37
  go_wp2
  go_loop [5] (fun iv => ∃ k : Nat, iv = .int .i64 (k : Int) ∧ k ≤ l.length ∧ Hid ((l.take k).all (fun t => Md.plB n t.2) = true)) (fun iv => l.length - (intOf iv).toNat)
  case atStart => exact ⟨0, rfl, Nat.zero_le _, (show _ = _ by simp)⟩
  case round =>
    obtain ⟨k, rfl, hk, hA⟩ := hrel
    by_cases hlt : k < l.length
    · obtain ⟨b, off, rfl, hb, hc⟩ := HC.out (by omega)
      obtain ⟨_, c2⟩ := hc k hlt
      have hkI : (k : Int) < (l.length : Int) := by omega
      clear hc
      by_cases h1 : l[k].2 < 0
      · have hres : Hid (termsE l n = 44) := by
          have := Md.all_stop (p := fun t => Md.plB n t.2) hlt (decide_eq_false (by omega))
          show _ = _
          unfold termsE; rw [this]; rfl
        generalize l[k].2 = x at *
        go_wp2
        go_ret
        exact ⟨ret_int hres.out.symm, rfl⟩
      · by_cases h2 : n ≤ l[k].2
        · have hres : Hid (termsE l n = 44) := by
            have := Md.all_stop (p := fun t => Md.plB n t.2) hlt (decide_eq_false (by omega))
            show _ = _
            unfold termsE; rw [this]; rfl
          generalize l[k].2 = x at *
          go_wp2
          go_ret
          exact ⟨ret_int hres.out.symm, rfl⟩
        · have hres : Hid ((l.take (k + 1)).all (fun t => Md.plB n t.2) = true) := Md.all_next hA.out hlt (decide_eq_true (by omega))
          generalize l[k].2 = x at *
          go_wp2
          go_round
          case rel => exact ⟨k + 1, by go_num, by omega, hres⟩
          case measure => simp [intOf]; omega
    · have hkI : ¬ (k : Int) < (l.length : Int) := by omega
      have hall : Hid ((l.all fun t => Md.plB n t.2) = true) := Md.all_done hA.out (by omega)
      go_wp2
      go_loop [6] (fun iv => ∃ k : Nat, iv = .int .i64 (k : Int) ∧ k ≤ l.length ∧ Hid ((l.take k).all (fun t => Md.cfB t.1) = true)) (fun iv => l.length - (intOf iv).toNat)
      case atStart => exact ⟨0, rfl, Nat.zero_le _, (show _ = _ by simp)⟩
      case round =>
        obtain ⟨k2, rfl, hk2, hA2⟩ := hrel
        by_cases hlt2 : k2 < l.length
        · obtain ⟨b, off, rfl, hb, hc⟩ := HC.out (by omega)
          obtain ⟨c1, _⟩ := hc k2 hlt2
          have hkI2 : (k2 : Int) < (l.length : Int) := by omega
          clear hc
          cases hp : Md.cfB l[k2].1
          · have hres : Hid (termsE l n = 45) := by
              have h3 : Md.coefsB l = false := by unfold Md.coefsB; exact Md.all_stop hlt2 hp
              show _ = _
              unfold termsE; rw [hall.out, h3]; rfl
            generalize l[k2].1 = x at *
            go_wp2_with (go_at_call 90; refine (coef_any _ _).mono ?_; rintro e w' ⟨rfl, rfl⟩)
            go_ret
            exact ⟨ret_int hres.out.symm, rfl⟩
          · have hres : Hid ((l.take (k2 + 1)).all (fun t => Md.cfB t.1) = true) := Md.all_next hA2.out hlt2 hp
            generalize l[k2].1 = x at *
            go_wp2_with (go_at_call 90; refine (coef_any _ _).mono ?_; rintro e w' ⟨rfl, rfl⟩)
            go_round
            case rel => exact ⟨k2 + 1, by go_num, by omega, hres⟩
            case measure => simp [intOf]; omega
        · have hkI2 : ¬ (k2 : Int) < (l.length : Int) := by omega
          have hres : Hid (termsE l n = 0) := by
            have h3 : Md.coefsB l = true := by unfold Md.coefsB; exact Md.all_done hA2.out (by omega)
            show _ = _
            unfold termsE; rw [hall.out, h3]; rfl
          go_wp2
          go_ret
          exact ⟨ret_int hres.out.symm, rfl⟩

set_option maxRecDepth 10000 in
set_option maxHeartbeats 1000000 in
theorem refSum_any (vt vv : Value) (t : List (Int × Int)) (vs : List Int) (w : World) (ht : TermsAt w vt t) (hv : IntsAt w vv vs) (hn : vs.all Md.numB = true) (hx : ∀ x ∈ t, 0 ≤ x.2 ∧ x.2 < vs.length) (hc : ∀ x ∈ t, -1000000 ≤ x.1 ∧ x.1 ≤ 1000000) (hl : t.length ≤ 64) :
    Calls Tryz.prog 54 #[vt, vv] w fun e w' => e = .returned (.int .i64 (Md.sum t vs)) ∧ Below w.heap.size w w' := by
  have HT : Hid (TermsAt w vt t) := ht
  have HV : Hid (IntsAt w vv vs) := hv
  have HN : Hid (vs.all Md.numB = true) := hn
  have HX : Hid (∀ x ∈ t, 0 ≤ x.2 ∧ x.2 < vs.length) := hx
  have HC : Hid (∀ x ∈ t, -1000000 ≤ x.1 ∧ x.1 ≤ 1000000) := hc
  obtain ⟨ta, tc, rfl, hm, _⟩ := ht
  obtain ⟨va, vc, rfl, _⟩ := hv
  clear hn hx hc hm
  go_enter Tryz.func54, Tryz.ntmps54
  go_wp2
  go_loopw [5, 6] (fun sv iv wr => ∃ k : Nat, iv = .int .i64 (k : Int) ∧ k ≤ t.length ∧ sv = .int .i64 (Md.sum (t.take k) vs) ∧ Hid (Below w.heap.size w wr)) (fun _ iv _ => t.length - (intOf iv).toNat)
  case atStart => exact ⟨0, rfl, Nat.zero_le _, by simp [Md.sum], Below.refl _ _⟩
  case round =>
    obtain ⟨k, rfl, hk, rfl, hB⟩ := hrel
    by_cases hlt : k < t.length
    · have hkI : (k : Int) < (t.length : Int) := by omega
      have hxk := HX.out _ (List.getElem_mem hlt)
      have hck := HC.out _ (List.getElem_mem hlt)
      obtain ⟨ta', tc', hte, _, hto⟩ := HT.out
      obtain ⟨b, off, hta, hb, hcell⟩ := hto (by omega)
      injection hte with e4 e5 e6
      rw [← e4] at hta
      subst hta
      obtain ⟨bv, offv, cv, hve, hbv, hmv, hvc⟩ := HV.out.open (by omega)
      injection hve with e1 e2 e3
      subst e1 e3
      obtain ⟨c1, c2⟩ := hcell k hlt
      obtain ⟨m, hm⟩ : ∃ m : Nat, t[k].2 = (m : Int) := ⟨t[k].2.toNat, by omega⟩
      have hmn : m < vs.length := by omega
      have hmI : (m : Int) < (vs.length : Int) := by omega
      have hcv := (hB.out.cell (p := ⟨bv, offv + m, none⟩) hbv).trans (hvc m hmn)
      have d1 := (hB.out.cell (p := ⟨b, off + k * 2, none⟩) hb).trans c1
      have d2 := (hB.out.cell (p := ⟨b, off + k * 2 + 1, none⟩) hb).trans c2
      have hval := Md.val_mem HN.out (m : Int)
      have hmul := Md.mul_bd hck.1 hck.2 hval.1 hval.2
      have hsb := Md.sum_bd HN.out HC.out k (by omega)
      have hw1 : IntKind.i64.wrap (t[k].1 * Md.val vs (m : Int)) = t[k].1 * Md.val vs (m : Int) := wrap_ok (by omega) (by omega)
      have hw2 : IntKind.i64.wrap (Md.sum (t.take k) vs + t[k].1 * Md.val vs (m : Int)) = Md.sum (t.take k) vs + t[k].1 * Md.val vs (m : Int) := wrap_ok (by omega) (by omega)
      have hnx : Hid (Md.sum (t.take (k + 1)) vs = Md.sum (t.take k) vs + t[k].1 * Md.val vs (m : Int)) := by show _ = _; rw [Md.sum_next hlt, hm]
      rw [hm] at d2
      clear hvc hcell c1 c2 hsb hmul hval hxk hck hm e2 hto e4 e5 e6
      generalize t[k].1 = tc1 at *
      generalize Md.val vs (m : Int) = y at *
      generalize Md.sum (t.take k) vs = s at *
      go_wp2
      go_quiet (fail)
      go_wp2
      go_roundw
      case rel => exact ⟨k + 1, by go_num, by omega, by rw [hnx.out], below_drewN hB.out _⟩
      case measure => simp [intOf]; omega
    · have hkI : ¬ (k : Int) < (t.length : Int) := by omega
      have hte : t.take k = t := List.take_of_length_le (by omega)
      rw [hte]
      clear hte
      go_wp2
      go_ret
      exact ⟨rfl, hB.out⟩
end Go.Proofs.YtmhfabnpfkkbcaaGreat

namespace Go.Proofs.YtmhfabnpfkkbcaaGreat
open Go.RowKit

set_option maxRecDepth 10000 in
set_option maxHeartbeats 2000000 in
theorem places_any (c : Md.Cn) (vt vx vb vr : Value) (n : Int) (w : World) (h : CnAt w c vt vx vb vr) : Calls Tryz.prog 88 #[cnVal c vt vx vb vr, .int .i64 n] w fun e w' => e = .returned (.bool (Md.plB n c.x && Md.plB n c.y && c.xs.all (Md.plB n))) ∧ Below w.heap.size w w' := by
  obtain ⟨ta, tc, rfl, _⟩ := id h.t
  obtain ⟨xa, xc, rfl, hxm, hxo⟩ := id h.x
  obtain ⟨ba, bc, rfl, hbm, hbo⟩ := id h.b
  obtain ⟨ra, rc, rfl, hrm, hro⟩ := id h.r
  unfold maxLen at hxm hbm hrm
  obtain ⟨W, hW⟩ : ∃ W, w.alloc (.cells #[.int .i64 c.kind, .int .i64 c.op, .slice ta c.terms.length tc, .int .i64 c.k, .int .i64 c.v, .int .i64 c.x, .int .i64 c.y, .slice xa c.xs.length xc, .slice ba c.table.length bc, .slice ra c.rows.length rc] 62) = W := ⟨_, rfl⟩
  have hbW : Below w.heap.size w W := by rw [← hW]; exact (Below.refl _ _).alloc (Nat.le_refl _) _
  have HB : Hid (Below w.heap.size w W) := hbW
  have HC : Hid (CnAt W c (.slice ta c.terms.length tc) (.slice xa c.xs.length xc) (.slice ba c.table.length bc) (.slice ra c.rows.length rc)) := h.below hbW
  have HXO : Hid (0 < c.xs.length → ∃ b off, xa = some ⟨b, off, none⟩ ∧ b < w.heap.size ∧ ∀ j (h : j < c.xs.length), w.cell? ⟨b, off + j, none⟩ = some (.int .i64 c.xs[j])) := hxo
  have HBO : Hid (0 < c.table.length → ∃ b off, ba = some ⟨b, off, none⟩ ∧ b < w.heap.size ∧ ∀ j (h : j < c.table.length), w.cell? ⟨b, off + j, none⟩ = some (.int .i64 c.table[j])) := hbo
  have HRO : Hid (0 < c.rows.length → ∃ b off, ra = some ⟨b, off, none⟩ ∧ b < w.heap.size ∧ ∀ j (h : j < c.rows.length), ∃ u, w.cell? ⟨b, off + j, none⟩ = some u ∧ IntsAt w u c.rows[j]) := hro
  have c0 : W.cell? ⟨w.heap.size, 0, none⟩ = some (.int .i64 c.kind) := by rw [← hW]; simp
  have c1 : W.cell? ⟨w.heap.size, 1, none⟩ = some (.int .i64 c.op) := by rw [← hW]; simp
  have c2 : W.cell? ⟨w.heap.size, 2, none⟩ = some (.slice ta c.terms.length tc) := by rw [← hW]; simp
  have c3 : W.cell? ⟨w.heap.size, 3, none⟩ = some (.int .i64 c.k) := by rw [← hW]; simp
  have c4 : W.cell? ⟨w.heap.size, 4, none⟩ = some (.int .i64 c.v) := by rw [← hW]; simp
  have c5 : W.cell? ⟨w.heap.size, 5, none⟩ = some (.int .i64 c.x) := by rw [← hW]; simp
  have c6 : W.cell? ⟨w.heap.size, 6, none⟩ = some (.int .i64 c.y) := by rw [← hW]; simp
  have c7 : W.cell? ⟨w.heap.size, 7, none⟩ = some (.slice xa c.xs.length xc) := by rw [← hW]; simp
  have c8 : W.cell? ⟨w.heap.size, 8, none⟩ = some (.slice ba c.table.length bc) := by rw [← hW]; simp
  have c9 : W.cell? ⟨w.heap.size, 9, none⟩ = some (.slice ra c.rows.length rc) := by rw [← hW]; simp
  have hsz : W.heap.size = w.heap.size + 1 := by rw [← hW]; simp
  have hsN : w.heap.size < W.heap.size := by omega
  have HCC : Hid (∀ w', Below W.heap.size W w' → w'.cell? ⟨w.heap.size, 0, none⟩ = some (.int .i64 c.kind) ∧ w'.cell? ⟨w.heap.size, 1, none⟩ = some (.int .i64 c.op) ∧ w'.cell? ⟨w.heap.size, 2, none⟩ = some (.slice ta c.terms.length tc) ∧ w'.cell? ⟨w.heap.size, 3, none⟩ = some (.int .i64 c.k) ∧ w'.cell? ⟨w.heap.size, 4, none⟩ = some (.int .i64 c.v) ∧ w'.cell? ⟨w.heap.size, 5, none⟩ = some (.int .i64 c.x) ∧ w'.cell? ⟨w.heap.size, 6, none⟩ = some (.int .i64 c.y) ∧ w'.cell? ⟨w.heap.size, 7, none⟩ = some (.slice xa c.xs.length xc) ∧ w'.cell? ⟨w.heap.size, 8, none⟩ = some (.slice ba c.table.length bc) ∧ w'.cell? ⟨w.heap.size, 9, none⟩ = some (.slice ra c.rows.length rc)) := fun w' hb => ⟨(hb.cell (p := ⟨w.heap.size, 0, none⟩) hsN).trans c0, (hb.cell (p := ⟨w.heap.size, 1, none⟩) hsN).trans c1, (hb.cell (p := ⟨w.heap.size, 2, none⟩) hsN).trans c2, (hb.cell (p := ⟨w.heap.size, 3, none⟩) hsN).trans c3, (hb.cell (p := ⟨w.heap.size, 4, none⟩) hsN).trans c4, (hb.cell (p := ⟨w.heap.size, 5, none⟩) hsN).trans c5, (hb.cell (p := ⟨w.heap.size, 6, none⟩) hsN).trans c6, (hb.cell (p := ⟨w.heap.size, 7, none⟩) hsN).trans c7, (hb.cell (p := ⟨w.heap.size, 8, none⟩) hsN).trans c8, (hb.cell (p := ⟨w.heap.size, 9, none⟩) hsN).trans c9⟩
  unfold cnVal
  clear h hxo hbo hro hbW hsz
  obtain ⟨q, hq⟩ : ∃ q, (Md.plB n c.x && Md.plB n c.y) = q := ⟨_, rfl⟩
  have HQ : Hid ((Md.plB n c.x && Md.plB n c.y) = q) := hq
  rw [hq]
  have tail : ∀ (qv : Bool), qv = q → True := fun _ _ => trivial
  clear hq tail
  cases p1 : Md.plB n c.x
  all_goals cases p2 : Md.plB n c.y
  all_goals
    go_enter Tryz.func88, Tryz.ntmps88
    go_wp2_with (go_at_call 114; refine (place_any _ _ _).mono ?_; rintro e w' ⟨rfl, rfl⟩)
    have hq2 : Hid (_ = q) := HQ.out
    rw [p1, p2] at hq2
    go_loop [5, 6] (fun bv iv => ∃ k : Nat, iv = .int .i64 (k : Int) ∧ k ≤ c.xs.length ∧ bv = .bool (q && (c.xs.take k).all (Md.plB n))) (fun _ iv => c.xs.length - (intOf iv).toNat)
    case atStart => exact ⟨0, rfl, Nat.zero_le _, by rw [← hq2.out]; simp⟩
    case round =>
      obtain ⟨k, rfl, hk, rfl⟩ := hrel
      by_cases hlt : k < c.xs.length
      · obtain ⟨b, off, rfl, hb, hc⟩ := HXO.out (by omega)
        have hcell := (HB.out.cell (p := ⟨b, off + k, none⟩) hb).trans (hc k hlt)
        have hkI : (k : Int) < (c.xs.length : Int) := by omega
        have hnx : Hid ((q && (c.xs.take (k + 1)).all (Md.plB n)) = ((q && (c.xs.take k).all (Md.plB n)) && Md.plB n c.xs[k])) := by
          show _ = _
          rw [List.take_succ_eq_append_getElem hlt, List.all_append]; simp [Bool.and_assoc]
        clear hc
        generalize c.xs[k] = x at *
        cases hb1 : (q && (c.xs.take k).all (Md.plB n))
        · rw [hb1] at hnx
          go_wp2
          go_round
          case rel => exact ⟨k + 1, by go_num, by omega, by rw [hnx.out]; simp⟩
          case measure => simp [intOf]; omega
        · rw [hb1] at hnx
          go_wp2_with (go_at_call 114; refine (place_any _ _ _).mono ?_; rintro e w' ⟨rfl, rfl⟩)
          go_round
          case rel => exact ⟨k + 1, by go_num, by omega, by rw [hnx.out]; simp⟩
          case measure => simp [intOf]; omega
      · have hkI : ¬ (k : Int) < (c.xs.length : Int) := by omega
        rw [List.take_of_length_le (by omega)]
        go_wp2
        go_ret
        exact ⟨rfl, HB.out⟩

set_option maxRecDepth 10000 in
set_option maxHeartbeats 2000000 in
theorem rowsOk_any (c : Md.Cn) (vt vx vb vr : Value) (w : World) (h : CnAt w c vt vx vb vr) : Calls Tryz.prog 87 #[cnVal c vt vx vb vr] w fun e w' => e = .returned (.bool (!(decide (8 < c.xs.length) || Md.fewB c.rows.length 64 || !(c.rows.all fun r => r.length == c.xs.length)))) ∧ Below w.heap.size w w' := by
  obtain ⟨ta, tc, rfl, _⟩ := id h.t
  obtain ⟨xa, xc, rfl, hxm, hxo⟩ := id h.x
  obtain ⟨ba, bc, rfl, hbm, hbo⟩ := id h.b
  obtain ⟨ra, rc, rfl, hrm, hro⟩ := id h.r
  unfold maxLen at hxm hbm hrm
  obtain ⟨W, hW⟩ : ∃ W, w.alloc (.cells #[.int .i64 c.kind, .int .i64 c.op, .slice ta c.terms.length tc, .int .i64 c.k, .int .i64 c.v, .int .i64 c.x, .int .i64 c.y, .slice xa c.xs.length xc, .slice ba c.table.length bc, .slice ra c.rows.length rc] 62) = W := ⟨_, rfl⟩
  have hbW : Below w.heap.size w W := by rw [← hW]; exact (Below.refl _ _).alloc (Nat.le_refl _) _
  have HB : Hid (Below w.heap.size w W) := hbW
  have HC : Hid (CnAt W c (.slice ta c.terms.length tc) (.slice xa c.xs.length xc) (.slice ba c.table.length bc) (.slice ra c.rows.length rc)) := h.below hbW
  have HXO : Hid (0 < c.xs.length → ∃ b off, xa = some ⟨b, off, none⟩ ∧ b < w.heap.size ∧ ∀ j (h : j < c.xs.length), w.cell? ⟨b, off + j, none⟩ = some (.int .i64 c.xs[j])) := hxo
  have HBO : Hid (0 < c.table.length → ∃ b off, ba = some ⟨b, off, none⟩ ∧ b < w.heap.size ∧ ∀ j (h : j < c.table.length), w.cell? ⟨b, off + j, none⟩ = some (.int .i64 c.table[j])) := hbo
  have HRO : Hid (0 < c.rows.length → ∃ b off, ra = some ⟨b, off, none⟩ ∧ b < w.heap.size ∧ ∀ j (h : j < c.rows.length), ∃ u, w.cell? ⟨b, off + j, none⟩ = some u ∧ IntsAt w u c.rows[j]) := hro
  have c0 : W.cell? ⟨w.heap.size, 0, none⟩ = some (.int .i64 c.kind) := by rw [← hW]; simp
  have c1 : W.cell? ⟨w.heap.size, 1, none⟩ = some (.int .i64 c.op) := by rw [← hW]; simp
  have c2 : W.cell? ⟨w.heap.size, 2, none⟩ = some (.slice ta c.terms.length tc) := by rw [← hW]; simp
  have c3 : W.cell? ⟨w.heap.size, 3, none⟩ = some (.int .i64 c.k) := by rw [← hW]; simp
  have c4 : W.cell? ⟨w.heap.size, 4, none⟩ = some (.int .i64 c.v) := by rw [← hW]; simp
  have c5 : W.cell? ⟨w.heap.size, 5, none⟩ = some (.int .i64 c.x) := by rw [← hW]; simp
  have c6 : W.cell? ⟨w.heap.size, 6, none⟩ = some (.int .i64 c.y) := by rw [← hW]; simp
  have c7 : W.cell? ⟨w.heap.size, 7, none⟩ = some (.slice xa c.xs.length xc) := by rw [← hW]; simp
  have c8 : W.cell? ⟨w.heap.size, 8, none⟩ = some (.slice ba c.table.length bc) := by rw [← hW]; simp
  have c9 : W.cell? ⟨w.heap.size, 9, none⟩ = some (.slice ra c.rows.length rc) := by rw [← hW]; simp
  have hsz : W.heap.size = w.heap.size + 1 := by rw [← hW]; simp
  have hsN : w.heap.size < W.heap.size := by omega
  have HCC : Hid (∀ w', Below W.heap.size W w' → w'.cell? ⟨w.heap.size, 0, none⟩ = some (.int .i64 c.kind) ∧ w'.cell? ⟨w.heap.size, 1, none⟩ = some (.int .i64 c.op) ∧ w'.cell? ⟨w.heap.size, 2, none⟩ = some (.slice ta c.terms.length tc) ∧ w'.cell? ⟨w.heap.size, 3, none⟩ = some (.int .i64 c.k) ∧ w'.cell? ⟨w.heap.size, 4, none⟩ = some (.int .i64 c.v) ∧ w'.cell? ⟨w.heap.size, 5, none⟩ = some (.int .i64 c.x) ∧ w'.cell? ⟨w.heap.size, 6, none⟩ = some (.int .i64 c.y) ∧ w'.cell? ⟨w.heap.size, 7, none⟩ = some (.slice xa c.xs.length xc) ∧ w'.cell? ⟨w.heap.size, 8, none⟩ = some (.slice ba c.table.length bc) ∧ w'.cell? ⟨w.heap.size, 9, none⟩ = some (.slice ra c.rows.length rc)) := fun w' hb => ⟨(hb.cell (p := ⟨w.heap.size, 0, none⟩) hsN).trans c0, (hb.cell (p := ⟨w.heap.size, 1, none⟩) hsN).trans c1, (hb.cell (p := ⟨w.heap.size, 2, none⟩) hsN).trans c2, (hb.cell (p := ⟨w.heap.size, 3, none⟩) hsN).trans c3, (hb.cell (p := ⟨w.heap.size, 4, none⟩) hsN).trans c4, (hb.cell (p := ⟨w.heap.size, 5, none⟩) hsN).trans c5, (hb.cell (p := ⟨w.heap.size, 6, none⟩) hsN).trans c6, (hb.cell (p := ⟨w.heap.size, 7, none⟩) hsN).trans c7, (hb.cell (p := ⟨w.heap.size, 8, none⟩) hsN).trans c8, (hb.cell (p := ⟨w.heap.size, 9, none⟩) hsN).trans c9⟩
  unfold cnVal
  clear h hxo hbo hro hbW hsz
  by_cases h8 : 8 < c.xs.length
  · have h8I : (8 : Int) < (c.xs.length : Int) := by omega
    go_enter Tryz.func87, Tryz.ntmps87
    go_wp2
    go_ret
    exact ⟨ret_bool (by simp [h8]), HB.out⟩
  · have h8I : ¬ (8 : Int) < (c.xs.length : Int) := by omega
    cases hfw : Md.fewB c.rows.length 64
    · go_enter Tryz.func87, Tryz.ntmps87
      go_wp2_with (go_at_call 36; refine (many_any c.rows.length _).mono ?_; rintro e w' ⟨rfl, hww⟩; rw [hww])
      go_loopw [3] (fun iv wr => ∃ k : Nat, iv = .int .i64 (k : Int) ∧ k ≤ c.rows.length ∧ Hid ((c.rows.take k).all (fun r => r.length == c.xs.length) = true) ∧ Hid (Below W.heap.size W wr)) (fun iv _ => c.rows.length - (intOf iv).toNat)
      case atStart => exact ⟨0, rfl, Nat.zero_le _, (show _ = _ by simp), Below.refl _ _⟩
      case round =>
        obtain ⟨k, rfl, hk, hA, hB⟩ := hrel
        obtain ⟨_, _, _, _, _, _, _, a7, _, a9⟩ := HCC.out _ hB.out
        by_cases hlt : k < c.rows.length
        · obtain ⟨b, off, rfl, hb, hc⟩ := HRO.out (by omega)
          obtain ⟨u, hcell, hu⟩ := hc k hlt
          have hcw := ((HB.out.trans (hB.out.mono HB.out.size)).cell (p := ⟨b, off + k, none⟩) hb).trans hcell
          obtain ⟨ua, uc, rfl, _⟩ := hu.form
          have hkI : (k : Int) < (c.rows.length : Int) := by omega
          clear hc hu hcell
          by_cases he : (c.rows[k]).length = c.xs.length
          · have hnx : Hid ((c.rows.take (k + 1)).all (fun r => r.length == c.xs.length) = true) := Md.all_next hA.out hlt (by simpa using he)
            have heB : (((c.rows[k]).length : Int) != (c.xs.length : Int)) = false := by simp; omega
            generalize (c.rows[k]).length = y at *
            clear he
            go_wp2
            go_quiet (fail)
            go_wp2
            go_roundw
            case rel => exact ⟨k + 1, by go_num, by omega, hnx, below_drewN hB.out _⟩
            case measure => simp [intOf]; omega
          · have hres : Hid ((c.rows.all fun r => r.length == c.xs.length) = false) := Md.all_stop hlt (by simpa using he)
            have heB : (((c.rows[k]).length : Int) != (c.xs.length : Int)) = true := by simp; omega
            generalize (c.rows[k]).length = y at *
            clear he
            go_wp2
            go_quiet (fail)
            go_wp2
            go_ret
            exact ⟨ret_bool (by rw [hres.out]; simp), HB.out.trans ((below_drewN hB.out _).mono HB.out.size)⟩
        · have hkI : ¬ (k : Int) < (c.rows.length : Int) := by omega
          have hres : Hid ((c.rows.all fun r => r.length == c.xs.length) = true) := Md.all_done hA.out (by omega)
          go_wp2
          go_ret
          exact ⟨ret_bool (by rw [hres.out]), HB.out.trans (hB.out.mono HB.out.size)⟩
    · go_enter Tryz.func87, Tryz.ntmps87
      go_wp2_with (go_at_call 36; refine (many_any c.rows.length _).mono ?_; rintro e w' ⟨rfl, hww⟩; rw [hww])
      go_ret
      exact ⟨ret_bool (by simp), HB.out⟩
end Go.Proofs.YtmhfabnpfkkbcaaGreat
