/-
  Put together: DcRefA, DcRefB, MdRefA, MdConMath, DcRefCon8.
-/
import Derived.Test.YtchpapppkmnfnaaGreatDoorJ06
import Derived.WalkSmall
import Derived.Test.YtchpapppkmnfnaaGreatDoorJ08
import Derived.Deep.RegionHeld3
namespace Go.Proofs.YtchpapppkmnfnaaGreatDoor.Doc
open Go.RowKit

/-- What terms answers. -/
def termsE (l : List (Int × Int)) (n : Int) : Int := if (l.all fun t => Md.plB n t.2) = true then (if Md.coefsB l = true then 0 else 45) else 44

set_option maxHeartbeats 1000000 in
theorem terms_any (v : Value) (l : List (Int × Int)) (n : Int) (w : World) (h : TermsAt w v l) : Calls Tryz.prog 78 #[v, .int .i64 n] w fun e w' => e = .returned (.int .i64 (termsE l n)) ∧ w' = w := by
  obtain ⟨a, cap, rfl, hm, hc⟩ := h
  unfold maxLen at hm
  have HC : Hid (0 < l.length → ∃ b off, a = some ⟨b, off, none⟩ ∧ b < w.heap.size ∧ ∀ j (h : j < l.length), w.cell? ⟨b, off + j * 2, none⟩ = some (.int .i64 l[j].1) ∧ w.cell? ⟨b, off + j * 2 + 1, none⟩ = some (.int .i64 l[j].2)) := hc
  clear hc
  go_enter Tryz.func78, Tryz.ntmps78
  go_wp2
  go_loop [5] (fun iv => ∃ k : Nat, iv = .int .i64 (k : Int) ∧ k ≤ l.length ∧ Hid ((l.take k).all (fun t => Md.plB n t.2) = true)) (fun iv => l.length - (intOf iv).toNat)
  case atStart => exact ⟨0, rfl, Nat.zero_le _, (show _ = _ by simp)⟩
  case round =>
    obtain ⟨k, rfl, hk, hA⟩ := hrel
    by_cases hlt : k < l.length
    · obtain ⟨b, off, rfl, hb, hc⟩ := HC.out (by omega)
      obtain ⟨_, c2⟩ := hc k hlt
      have hkI : (k : Int) < (l.length : Int) := by omega
      clear hc
      by_cases h1 : l[k].2 < 0
      · have hres : Hid (termsE l n = 44) := by
          have := Md.all_stop (p := fun t => Md.plB n t.2) hlt (decide_eq_false (by omega))
          show _ = _
          unfold termsE; rw [this]; rfl
        generalize l[k].2 = x at *
        go_wp2
        go_ret
        exact ⟨ret_int hres.out.symm, rfl⟩
      · by_cases h2 : n ≤ l[k].2
        · have hres : Hid (termsE l n = 44) := by
            have := Md.all_stop (p := fun t => Md.plB n t.2) hlt (decide_eq_false (by omega))
            show _ = _
            unfold termsE; rw [this]; rfl
          generalize l[k].2 = x at *
          go_wp2
          go_ret
          exact ⟨ret_int hres.out.symm, rfl⟩
        · have hres : Hid ((l.take (k + 1)).all (fun t => Md.plB n t.2) = true) := Md.all_next hA.out hlt (decide_eq_true (by omega))
          generalize l[k].2 = x at *
          go_wp2
          go_round
          case rel => exact ⟨k + 1, by go_num, by omega, hres⟩
          case measure => simp [intOf]; omega
    · have hkI : ¬ (k : Int) < (l.length : Int) := by omega
      have hall : Hid ((l.all fun t => Md.plB n t.2) = true) := Md.all_done hA.out (by omega)
      go_wp2
      go_loop [6] (fun iv => ∃ k : Nat, iv = .int .i64 (k : Int) ∧ k ≤ l.length ∧ Hid ((l.take k).all (fun t => Md.cfB t.1) = true)) (fun iv => l.length - (intOf iv).toNat)
      case atStart => exact ⟨0, rfl, Nat.zero_le _, (show _ = _ by simp)⟩
      case round =>
        obtain ⟨k2, rfl, hk2, hA2⟩ := hrel
        by_cases hlt2 : k2 < l.length
        · obtain ⟨b, off, rfl, hb, hc⟩ := HC.out (by omega)
          obtain ⟨c1, _⟩ := hc k2 hlt2
          have hkI2 : (k2 : Int) < (l.length : Int) := by omega
          clear hc
          cases hp : Md.cfB l[k2].1
          · have hres : Hid (termsE l n = 45) := by
              have h3 : Md.coefsB l = false := by unfold Md.coefsB; exact Md.all_stop hlt2 hp
              show _ = _
              unfold termsE; rw [hall.out, h3]; rfl
            generalize l[k2].1 = x at *
            go_wp2_with (go_at_call 127; refine (coef_any _ _).mono ?_; rintro e w' ⟨rfl, rfl⟩)
            go_ret
            exact ⟨ret_int hres.out.symm, rfl⟩
          · have hres : Hid ((l.take (k2 + 1)).all (fun t => Md.cfB t.1) = true) := Md.all_next hA2.out hlt2 hp
            generalize l[k2].1 = x at *
            go_wp2_with (go_at_call 127; refine (coef_any _ _).mono ?_; rintro e w' ⟨rfl, rfl⟩)
            go_round
            case rel => exact ⟨k2 + 1, by go_num, by omega, hres⟩
            case measure => simp [intOf]; omega
        · have hkI2 : ¬ (k2 : Int) < (l.length : Int) := by omega
          have hres : Hid (termsE l n = 0) := by
            have h3 : Md.coefsB l = true := by unfold Md.coefsB; exact Md.all_done hA2.out (by omega)
            show _ = _
            unfold termsE; rw [hall.out, h3]; rfl
          go_wp2
          go_ret
          exact ⟨ret_int hres.out.symm, rfl⟩

end Go.Proofs.YtchpapppkmnfnaaGreatDoor.Doc

namespace Go.Proofs.YtchpapppkmnfnaaGreatDoor.Doc
open Go.RowKit

set_option maxRecDepth 10000 in
set_option maxHeartbeats 2000000 in
theorem places_any (c : Md.Cn) (vt vx vb vr : Value) (n : Int) (w : World) (h : CnAt w c vt vx vb vr) : Calls Tryz.prog 125 #[cnVal c vt vx vb vr, .int .i64 n] w fun e w' => e = .returned (.bool (Md.plB n c.x && Md.plB n c.y && c.xs.all (Md.plB n))) ∧ Below w.heap.size w w' := by
  obtain ⟨ta, tc, rfl, _⟩ := id h.t
  obtain ⟨xa, xc, rfl, hxm, hxo⟩ := id h.x
  obtain ⟨ba, bc, rfl, hbm, hbo⟩ := id h.b
  obtain ⟨ra, rc, rfl, hrm, hro⟩ := id h.r
  unfold maxLen at hxm hbm hrm
  obtain ⟨W, hW⟩ : ∃ W, w.alloc (.cells #[.int .i64 c.kind, .int .i64 c.op, .slice ta c.terms.length tc, .int .i64 c.k, .int .i64 c.v, .int .i64 c.x, .int .i64 c.y, .slice xa c.xs.length xc, .slice ba c.table.length bc, .slice ra c.rows.length rc] 78) = W := ⟨_, rfl⟩
  have hbW : Below w.heap.size w W := by rw [← hW]; exact (Below.refl _ _).alloc (Nat.le_refl _) _
  have HB : Hid (Below w.heap.size w W) := hbW
  have HC : Hid (CnAt W c (.slice ta c.terms.length tc) (.slice xa c.xs.length xc) (.slice ba c.table.length bc) (.slice ra c.rows.length rc)) := h.below hbW
  have HXO : Hid (0 < c.xs.length → ∃ b off, xa = some ⟨b, off, none⟩ ∧ b < w.heap.size ∧ ∀ j (h : j < c.xs.length), w.cell? ⟨b, off + j, none⟩ = some (.int .i64 c.xs[j])) := hxo
  have HBO : Hid (0 < c.table.length → ∃ b off, ba = some ⟨b, off, none⟩ ∧ b < w.heap.size ∧ ∀ j (h : j < c.table.length), w.cell? ⟨b, off + j, none⟩ = some (.int .i64 c.table[j])) := hbo
  have HRO : Hid (0 < c.rows.length → ∃ b off, ra = some ⟨b, off, none⟩ ∧ b < w.heap.size ∧ ∀ j (h : j < c.rows.length), ∃ u, w.cell? ⟨b, off + j, none⟩ = some u ∧ IntsAt w u c.rows[j]) := hro
  have c0 : W.cell? ⟨w.heap.size, 0, none⟩ = some (.int .i64 c.kind) := by rw [← hW]; simp
  have c1 : W.cell? ⟨w.heap.size, 1, none⟩ = some (.int .i64 c.op) := by rw [← hW]; simp
  have c2 : W.cell? ⟨w.heap.size, 2, none⟩ = some (.slice ta c.terms.length tc) := by rw [← hW]; simp
  have c3 : W.cell? ⟨w.heap.size, 3, none⟩ = some (.int .i64 c.k) := by rw [← hW]; simp
  have c4 : W.cell? ⟨w.heap.size, 4, none⟩ = some (.int .i64 c.v) := by rw [← hW]; simp
  have c5 : W.cell? ⟨w.heap.size, 5, none⟩ = some (.int .i64 c.x) := by rw [← hW]; simp
  have c6 : W.cell? ⟨w.heap.size, 6, none⟩ = some (.int .i64 c.y) := by rw [← hW]; simp
  have c7 : W.cell? ⟨w.heap.size, 7, none⟩ = some (.slice xa c.xs.length xc) := by rw [← hW]; simp
  have c8 : W.cell? ⟨w.heap.size, 8, none⟩ = some (.slice ba c.table.length bc) := by rw [← hW]; simp
  have c9 : W.cell? ⟨w.heap.size, 9, none⟩ = some (.slice ra c.rows.length rc) := by rw [← hW]; simp
  have hsz : W.heap.size = w.heap.size + 1 := by rw [← hW]; simp
  have hsN : w.heap.size < W.heap.size := by omega
  have HCC : Hid (∀ w', Below W.heap.size W w' → w'.cell? ⟨w.heap.size, 0, none⟩ = some (.int .i64 c.kind) ∧ w'.cell? ⟨w.heap.size, 1, none⟩ = some (.int .i64 c.op) ∧ w'.cell? ⟨w.heap.size, 2, none⟩ = some (.slice ta c.terms.length tc) ∧ w'.cell? ⟨w.heap.size, 3, none⟩ = some (.int .i64 c.k) ∧ w'.cell? ⟨w.heap.size, 4, none⟩ = some (.int .i64 c.v) ∧ w'.cell? ⟨w.heap.size, 5, none⟩ = some (.int .i64 c.x) ∧ w'.cell? ⟨w.heap.size, 6, none⟩ = some (.int .i64 c.y) ∧ w'.cell? ⟨w.heap.size, 7, none⟩ = some (.slice xa c.xs.length xc) ∧ w'.cell? ⟨w.heap.size, 8, none⟩ = some (.slice ba c.table.length bc) ∧ w'.cell? ⟨w.heap.size, 9, none⟩ = some (.slice ra c.rows.length rc)) := fun w' hb => ⟨(hb.cell (p := ⟨w.heap.size, 0, none⟩) hsN).trans c0, (hb.cell (p := ⟨w.heap.size, 1, none⟩) hsN).trans c1, (hb.cell (p := ⟨w.heap.size, 2, none⟩) hsN).trans c2, (hb.cell (p := ⟨w.heap.size, 3, none⟩) hsN).trans c3, (hb.cell (p := ⟨w.heap.size, 4, none⟩) hsN).trans c4, (hb.cell (p := ⟨w.heap.size, 5, none⟩) hsN).trans c5, (hb.cell (p := ⟨w.heap.size, 6, none⟩) hsN).trans c6, (hb.cell (p := ⟨w.heap.size, 7, none⟩) hsN).trans c7, (hb.cell (p := ⟨w.heap.size, 8, none⟩) hsN).trans c8, (hb.cell (p := ⟨w.heap.size, 9, none⟩) hsN).trans c9⟩
  unfold cnVal
  clear h hxo hbo hro hbW hsz
  obtain ⟨q, hq⟩ : ∃ q, (Md.plB n c.x && Md.plB n c.y) = q := ⟨_, rfl⟩
  have HQ : Hid ((Md.plB n c.x && Md.plB n c.y) = q) := hq
  rw [hq]
  have tail : ∀ (qv : Bool), qv = q → True := fun _ _ => trivial
  clear hq tail
  cases p1 : Md.plB n c.x
  all_goals cases p2 : Md.plB n c.y
  all_goals
    go_enter Tryz.func125, Tryz.ntmps125
    go_wp2_with (go_at_call 177; refine (place_any _ _ _).mono ?_; rintro e w' ⟨rfl, rfl⟩)
    have hq2 : Hid (_ = q) := HQ.out
    rw [p1, p2] at hq2
    go_loop [5, 6] (fun bv iv => ∃ k : Nat, iv = .int .i64 (k : Int) ∧ k ≤ c.xs.length ∧ bv = .bool (q && (c.xs.take k).all (Md.plB n))) (fun _ iv => c.xs.length - (intOf iv).toNat)
    case atStart => exact ⟨0, rfl, Nat.zero_le _, by rw [← hq2.out]; simp⟩
    case round =>
      obtain ⟨k, rfl, hk, rfl⟩ := hrel
      by_cases hlt : k < c.xs.length
      · obtain ⟨b, off, rfl, hb, hc⟩ := HXO.out (by omega)
        have hcell := (HB.out.cell (p := ⟨b, off + k, none⟩) hb).trans (hc k hlt)
        have hkI : (k : Int) < (c.xs.length : Int) := by omega
        have hnx : Hid ((q && (c.xs.take (k + 1)).all (Md.plB n)) = ((q && (c.xs.take k).all (Md.plB n)) && Md.plB n c.xs[k])) := by
          show _ = _
          rw [List.take_succ_eq_append_getElem hlt, List.all_append]; simp [Bool.and_assoc]
        clear hc
        generalize c.xs[k] = x at *
        cases hb1 : (q && (c.xs.take k).all (Md.plB n))
        · rw [hb1] at hnx
          go_wp2
          go_round
          case rel => exact ⟨k + 1, by go_num, by omega, by rw [hnx.out]; simp⟩
          case measure => simp [intOf]; omega
        · rw [hb1] at hnx
          go_wp2_with (go_at_call 177; refine (place_any _ _ _).mono ?_; rintro e w' ⟨rfl, rfl⟩)
          go_round
          case rel => exact ⟨k + 1, by go_num, by omega, by rw [hnx.out]; simp⟩
          case measure => simp [intOf]; omega
      · have hkI : ¬ (k : Int) < (c.xs.length : Int) := by omega
        rw [List.take_of_length_le (by omega)]
        go_wp2
        go_ret
        exact ⟨rfl, HB.out⟩

set_option maxRecDepth 10000 in
set_option maxHeartbeats 2000000 in
theorem rowsOk_any (c : Md.Cn) (vt vx vb vr : Value) (w : World) (h : CnAt w c vt vx vb vr) : Calls Tryz.prog 124 #[cnVal c vt vx vb vr] w fun e w' => e = .returned (.bool (!(decide (8 < c.xs.length) || Md.fewB c.rows.length 64 || !(c.rows.all fun r => r.length == c.xs.length)))) ∧ Below w.heap.size w w' := by
  obtain ⟨ta, tc, rfl, _⟩ := id h.t
  obtain ⟨xa, xc, rfl, hxm, hxo⟩ := id h.x
  obtain ⟨ba, bc, rfl, hbm, hbo⟩ := id h.b
  obtain ⟨ra, rc, rfl, hrm, hro⟩ := id h.r
  unfold maxLen at hxm hbm hrm
  obtain ⟨W, hW⟩ : ∃ W, w.alloc (.cells #[.int .i64 c.kind, .int .i64 c.op, .slice ta c.terms.length tc, .int .i64 c.k, .int .i64 c.v, .int .i64 c.x, .int .i64 c.y, .slice xa c.xs.length xc, .slice ba c.table.length bc, .slice ra c.rows.length rc] 78) = W := ⟨_, rfl⟩
  have hbW : Below w.heap.size w W := by rw [← hW]; exact (Below.refl _ _).alloc (Nat.le_refl _) _
  have HB : Hid (Below w.heap.size w W) := hbW
  have HC : Hid (CnAt W c (.slice ta c.terms.length tc) (.slice xa c.xs.length xc) (.slice ba c.table.length bc) (.slice ra c.rows.length rc)) := h.below hbW
  have HXO : Hid (0 < c.xs.length → ∃ b off, xa = some ⟨b, off, none⟩ ∧ b < w.heap.size ∧ ∀ j (h : j < c.xs.length), w.cell? ⟨b, off + j, none⟩ = some (.int .i64 c.xs[j])) := hxo
  have HBO : Hid (0 < c.table.length → ∃ b off, ba = some ⟨b, off, none⟩ ∧ b < w.heap.size ∧ ∀ j (h : j < c.table.length), w.cell? ⟨b, off + j, none⟩ = some (.int .i64 c.table[j])) := hbo
  have HRO : Hid (0 < c.rows.length → ∃ b off, ra = some ⟨b, off, none⟩ ∧ b < w.heap.size ∧ ∀ j (h : j < c.rows.length), ∃ u, w.cell? ⟨b, off + j, none⟩ = some u ∧ IntsAt w u c.rows[j]) := hro
  have c0 : W.cell? ⟨w.heap.size, 0, none⟩ = some (.int .i64 c.kind) := by rw [← hW]; simp
  have c1 : W.cell? ⟨w.heap.size, 1, none⟩ = some (.int .i64 c.op) := by rw [← hW]; simp
  have c2 : W.cell? ⟨w.heap.size, 2, none⟩ = some (.slice ta c.terms.length tc) := by rw [← hW]; simp
  have c3 : W.cell? ⟨w.heap.size, 3, none⟩ = some (.int .i64 c.k) := by rw [← hW]; simp
  have c4 : W.cell? ⟨w.heap.size, 4, none⟩ = some (.int .i64 c.v) := by rw [← hW]; simp
  have c5 : W.cell? ⟨w.heap.size, 5, none⟩ = some (.int .i64 c.x) := by rw [← hW]; simp
  have c6 : W.cell? ⟨w.heap.size, 6, none⟩ = some (.int .i64 c.y) := by rw [← hW]; simp
  have c7 : W.cell? ⟨w.heap.size, 7, none⟩ = some (.slice xa c.xs.length xc) := by rw [← hW]; simp
  have c8 : W.cell? ⟨w.heap.size, 8, none⟩ = some (.slice ba c.table.length bc) := by rw [← hW]; simp
  have c9 : W.cell? ⟨w.heap.size, 9, none⟩ = some (.slice ra c.rows.length rc) := by rw [← hW]; simp
  have hsz : W.heap.size = w.heap.size + 1 := by rw [← hW]; simp
  have hsN : w.heap.size < W.heap.size := by omega
  have HCC : Hid (∀ w', Below W.heap.size W w' → w'.cell? ⟨w.heap.size, 0, none⟩ = some (.int .i64 c.kind) ∧ w'.cell? ⟨w.heap.size, 1, none⟩ = some (.int .i64 c.op) ∧ w'.cell? ⟨w.heap.size, 2, none⟩ = some (.slice ta c.terms.length tc) ∧ w'.cell? ⟨w.heap.size, 3, none⟩ = some (.int .i64 c.k) ∧ w'.cell? ⟨w.heap.size, 4, none⟩ = some (.int .i64 c.v) ∧ w'.cell? ⟨w.heap.size, 5, none⟩ = some (.int .i64 c.x) ∧ w'.cell? ⟨w.heap.size, 6, none⟩ = some (.int .i64 c.y) ∧ w'.cell? ⟨w.heap.size, 7, none⟩ = some (.slice xa c.xs.length xc) ∧ w'.cell? ⟨w.heap.size, 8, none⟩ = some (.slice ba c.table.length bc) ∧ w'.cell? ⟨w.heap.size, 9, none⟩ = some (.slice ra c.rows.length rc)) := fun w' hb => ⟨(hb.cell (p := ⟨w.heap.size, 0, none⟩) hsN).trans c0, (hb.cell (p := ⟨w.heap.size, 1, none⟩) hsN).trans c1, (hb.cell (p := ⟨w.heap.size, 2, none⟩) hsN).trans c2, (hb.cell (p := ⟨w.heap.size, 3, none⟩) hsN).trans c3, (hb.cell (p := ⟨w.heap.size, 4, none⟩) hsN).trans c4, (hb.cell (p := ⟨w.heap.size, 5, none⟩) hsN).trans c5, (hb.cell (p := ⟨w.heap.size, 6, none⟩) hsN).trans c6, (hb.cell (p := ⟨w.heap.size, 7, none⟩) hsN).trans c7, (hb.cell (p := ⟨w.heap.size, 8, none⟩) hsN).trans c8, (hb.cell (p := ⟨w.heap.size, 9, none⟩) hsN).trans c9⟩
  unfold cnVal
  clear h hxo hbo hro hbW hsz
  by_cases h8 : 8 < c.xs.length
  · have h8I : (8 : Int) < (c.xs.length : Int) := by omega
    go_enter Tryz.func124, Tryz.ntmps124
    go_wp2
    go_ret
    exact ⟨ret_bool (by simp [h8]), HB.out⟩
  · have h8I : ¬ (8 : Int) < (c.xs.length : Int) := by omega
    cases hfw : Md.fewB c.rows.length 64
    · go_enter Tryz.func124, Tryz.ntmps124
      go_wp2_with (go_at_call 77; refine (many_any c.rows.length _).mono ?_; rintro e w' ⟨rfl, hww⟩; rw [hww])
      go_loopw [3] (fun iv wr => ∃ k : Nat, iv = .int .i64 (k : Int) ∧ k ≤ c.rows.length ∧ Hid ((c.rows.take k).all (fun r => r.length == c.xs.length) = true) ∧ Hid (Below W.heap.size W wr)) (fun iv _ => c.rows.length - (intOf iv).toNat)
      case atStart => exact ⟨0, rfl, Nat.zero_le _, (show _ = _ by simp), Below.refl _ _⟩
      case round =>
        obtain ⟨k, rfl, hk, hA, hB⟩ := hrel
        obtain ⟨_, _, _, _, _, _, _, a7, _, a9⟩ := HCC.out _ hB.out
        by_cases hlt : k < c.rows.length
        · obtain ⟨b, off, rfl, hb, hc⟩ := HRO.out (by omega)
          obtain ⟨u, hcell, hu⟩ := hc k hlt
          have hcw := ((HB.out.trans (hB.out.mono HB.out.size)).cell (p := ⟨b, off + k, none⟩) hb).trans hcell
          obtain ⟨ua, uc, rfl, _⟩ := hu.form
          have hkI : (k : Int) < (c.rows.length : Int) := by omega
          clear hc hu hcell
          by_cases he : (c.rows[k]).length = c.xs.length
          · have hnx : Hid ((c.rows.take (k + 1)).all (fun r => r.length == c.xs.length) = true) := Md.all_next hA.out hlt (by simpa using he)
            have heB : (((c.rows[k]).length : Int) != (c.xs.length : Int)) = false := by simp; omega
            generalize (c.rows[k]).length = y at *
            clear he
            go_wp2
            go_quiet (fail)
            go_wp2
            go_roundw
            case rel => exact ⟨k + 1, by go_num, by omega, hnx, below_drewN hB.out _⟩
            case measure => simp [intOf]; omega
          · have hres : Hid ((c.rows.all fun r => r.length == c.xs.length) = false) := Md.all_stop hlt (by simpa using he)
            have heB : (((c.rows[k]).length : Int) != (c.xs.length : Int)) = true := by simp; omega
            generalize (c.rows[k]).length = y at *
            clear he
            go_wp2
            go_quiet (fail)
            go_wp2
            go_ret
            exact ⟨ret_bool (by rw [hres.out]; simp), HB.out.trans ((below_drewN hB.out _).mono HB.out.size)⟩
        · have hkI : ¬ (k : Int) < (c.rows.length : Int) := by omega
          have hres : Hid ((c.rows.all fun r => r.length == c.xs.length) = true) := Md.all_done hA.out (by omega)
          go_wp2
          go_ret
          exact ⟨ret_bool (by rw [hres.out]), HB.out.trans (hB.out.mono HB.out.size)⟩
    · go_enter Tryz.func124, Tryz.ntmps124
      go_wp2_with (go_at_call 77; refine (many_any c.rows.length _).mono ?_; rintro e w' ⟨rfl, hww⟩; rw [hww])
      go_ret
      exact ⟨ret_bool (by simp), HB.out⟩
end Go.Proofs.YtchpapppkmnfnaaGreatDoor.Doc

namespace Go.Proofs.YtchpapppkmnfnaaGreatDoor
open Go.RowKit

/-- What terms answers. -/
def termsE (l : List (Int × Int)) (n : Int) : Int := if (l.all fun t => Md.plB n t.2) = true then (if Md.coefsB l = true then 0 else 45) else 44

end Go.Proofs.YtchpapppkmnfnaaGreatDoor

namespace Go.Proofs.YtchpapppkmnfnaaGreatDoor
open Go.RowKit

theorem fault43' {c : Md.Cn} {n : Int} (h : Md.fOp c.kind = true) (h2 : c.op < 1 ∨ 3 < c.op) : Md.fault c n = 43 := by
  have : Md.kindBad c.kind c.op = true := by simp [Md.kindBad, h, h2]
  simp [Md.fault, this]
theorem kind_ok' {c : Md.Cn} (hk : 1 ≤ c.kind ∧ c.kind ≤ 9) (h : ¬ (Md.fOp c.kind = true ∧ (c.op < 1 ∨ 3 < c.op))) : Md.kindBad c.kind c.op = false := by
  rw [← Bool.not_eq_true]
  simp only [Md.kindBad, Bool.or_eq_true, Bool.and_eq_true, decide_eq_true_eq]
  rintro (h1 | h1)
  · omega
  · exact h h1
theorem fault48' {c : Md.Cn} {n : Int} (h1 : Md.kindBad c.kind c.op = false) (h2 : (Md.plainBad c || Md.listBad c) = true) : Md.fault c n = 48 := by unfold Md.fault; rw [h1, h2]; rfl
theorem fault47' {c : Md.Cn} {n : Int} (h1 : Md.kindBad c.kind c.op = false) (h2 : (Md.plainBad c || Md.listBad c) = false) (h3 : Md.manyBad c = true) : Md.fault c n = 47 := by unfold Md.fault; rw [h1, h2, h3]; rfl
theorem fault44' {c : Md.Cn} {n : Int} (h1 : Md.kindBad c.kind c.op = false) (h2 : (Md.plainBad c || Md.listBad c) = false) (h3 : Md.manyBad c = false) (h4 : Md.placesB c n = false) : Md.fault c n = 44 := by unfold Md.fault; rw [h1, h2, h3, h4]; rfl
theorem fault45' {c : Md.Cn} {n : Int} (h1 : Md.kindBad c.kind c.op = false) (h2 : (Md.plainBad c || Md.listBad c) = false) (h3 : Md.manyBad c = false) (h4 : Md.placesB c n = true) (h5 : Md.coefsB c.terms = false) : Md.fault c n = 45 := by unfold Md.fault; rw [h1, h2, h3, h4, h5]; rfl
theorem fault46' {c : Md.Cn} {n : Int} (h1 : Md.kindBad c.kind c.op = false) (h2 : (Md.plainBad c || Md.listBad c) = false) (h3 : Md.manyBad c = false) (h4 : Md.placesB c n = true) (h5 : Md.coefsB c.terms = true) (h6 : Md.numsB c = false) : Md.fault c n = 46 := by unfold Md.fault; rw [h1, h2, h3, h4, h5, h6]; rfl
theorem fault0' {c : Md.Cn} {n : Int} (h1 : Md.kindBad c.kind c.op = false) (h2 : (Md.plainBad c || Md.listBad c) = false) (h3 : Md.manyBad c = false) (h4 : Md.placesB c n = true) (h5 : Md.coefsB c.terms = true) (h6 : Md.numsB c = true) : Md.fault c n = 0 := by unfold Md.fault; rw [h1, h2, h3, h4, h5, h6]; rfl
theorem rows_nil {c : Md.Cn} {k : Int} (hk : c.kind = k) (h8 : Md.fRows k = false) (h : (Md.plainBad c || Md.listBad c) = false) : c.rows.all (fun r => r.length == c.xs.length) = true := by
  rw [Bool.or_eq_false_iff] at h
  have h2 := h.2
  unfold Md.listBad at h2
  rw [hk, h8] at h2
  simp only [Bool.or_eq_false_iff] at h2
  have h3 := h2.2
  simp at h3
  rw [h3]; rfl
theorem many8_eq {c : Md.Cn} (hk : c.kind = 8) : Md.manyBad c = (Md.fewB c.xs.length 8 || Md.fewB c.rows.length 64 || !(c.rows.all fun r => r.length == c.xs.length)) := by
  unfold Md.manyBad; rw [hk]
  simp only [Md.fTerms, Md.fXs, Md.fTable, Md.fRows, Md.mostXs]
  simp
theorem many8 {c : Md.Cn} (hk : c.kind = 8) (h : Md.fewB c.xs.length 64 = true ∨ (decide (8 < c.xs.length) || Md.fewB c.rows.length 64 || !(c.rows.all fun r => r.length == c.xs.length)) = true) : Md.manyBad c = true := by
  rw [many8_eq hk]
  have h5 : Md.fewB c.xs.length 64 = true ∨ 8 < c.xs.length → Md.fewB c.xs.length 8 = true := fun h => by
    unfold Md.fewB at *
    simp only [decide_eq_true_eq] at *
    omega
  rcases h with h | h
  · rw [h5 (.inl h)]; rfl
  · rw [Bool.or_eq_true, Bool.or_eq_true, decide_eq_true_eq] at h
    rcases h with (h | h) | h
    · rw [h5 (.inr h)]; rfl
    · rw [h]; simp
    · rw [h]; simp
theorem many8f {c : Md.Cn} (hk : c.kind = 8) (h1 : Md.fewB c.xs.length 64 = false) (h : (decide (8 < c.xs.length) || Md.fewB c.rows.length 64 || !(c.rows.all fun r => r.length == c.xs.length)) = false) : Md.manyBad c = false := by
  rw [many8_eq hk]
  rw [Bool.or_eq_false_iff, Bool.or_eq_false_iff] at h
  obtain ⟨⟨h2, h3⟩, h4⟩ := h
  have h5 : Md.fewB c.xs.length 8 = false := by
    unfold Md.fewB at *
    simp only [decide_eq_false_iff_not] at *
    omega
  rw [h3, h4, h5]; rfl
theorem pl1 {c : Md.Cn} {n : Int} (h : (Md.plB n c.x && Md.plB n c.y && c.xs.all (Md.plB n)) = false) : Md.placesB c n = false := by
  unfold Md.placesB
  cases hx : Md.plB n c.x <;> cases hy : Md.plB n c.y <;> cases hxs : c.xs.all (Md.plB n) <;> simp_all
theorem pl2 {c : Md.Cn} {n : Int} (h : (c.terms.all fun t => Md.plB n t.2) = false) : Md.placesB c n = false := by
  unfold Md.placesB
  rw [h]; simp
theorem pl3 {c : Md.Cn} {n : Int} (h : (Md.plB n c.x && Md.plB n c.y && c.xs.all (Md.plB n)) = true) (h2 : (c.terms.all fun t => Md.plB n t.2) = true) : Md.placesB c n = true := by
  unfold Md.placesB
  rw [Bool.and_eq_true, Bool.and_eq_true] at h
  rw [h.1.1, h.1.2, h.2, h2]; rfl
theorem termsE_is (l : List (Int × Int)) (n : Int) : (termsE l n = 44 ∧ (l.all fun t => Md.plB n t.2) = false) ∨ (termsE l n = 45 ∧ (l.all fun t => Md.plB n t.2) = true ∧ Md.coefsB l = false) ∨ (termsE l n = 0 ∧ (l.all fun t => Md.plB n t.2) = true ∧ Md.coefsB l = true) := by
  unfold termsE
  cases (l.all fun t => Md.plB n t.2)
  · exact .inl ⟨rfl, rfl⟩
  · cases Md.coefsB l
    · exact .inr (.inl ⟨rfl, rfl, rfl⟩)
    · exact .inr (.inr ⟨rfl, rfl, rfl⟩)
theorem nums_row {c : Md.Cn} (h : c.rows.all (fun r => r.all Md.numB) = false) : Md.numsB c = false := by unfold Md.numsB; rw [h]; simp
theorem nums_tab {c : Md.Cn} (h : c.table.all Md.numB = false) : Md.numsB c = false := by unfold Md.numsB; rw [h]; simp
end Go.Proofs.YtchpapppkmnfnaaGreatDoor

namespace Go.Proofs.YtchpapppkmnfnaaGreatDoor.Doc
open Go.RowKit

set_option maxRecDepth 10000 in
set_option maxHeartbeats 40000000 in
theorem refCon_8 (c : Md.Cn) (vt vx vb vr : Value) (n : Int) (w : World) (h : CnAt w c vt vx vb vr) (hk : c.kind = 8) (hfg : ∀ w', CnAt w' c vt vx vb vr → Calls Tryz.prog 122 #[cnVal c vt vx vb vr] w' fun e w'' => e = .returned (.bool (Md.plainBad c || Md.listBad c)) ∧ Below w'.heap.size w' w'') : Calls Tryz.prog 76 #[cnVal c vt vx vb vr, .int .i64 n] w fun e w' => e = .returned (.int .i64 (Md.fault c n)) ∧ Below w.heap.size w w' := by
  obtain ⟨ta, tc, rfl, _⟩ := id h.t
  obtain ⟨xa, xc, rfl, hxm, hxo⟩ := id h.x
  obtain ⟨ba, bc, rfl, hbm, hbo⟩ := id h.b
  obtain ⟨ra, rc, rfl, hrm, hro⟩ := id h.r
  unfold maxLen at hxm hbm hrm
  obtain ⟨W, hW⟩ : ∃ W, w.alloc (.cells #[.int .i64 8, .int .i64 c.op, .slice ta c.terms.length tc, .int .i64 c.k, .int .i64 c.v, .int .i64 c.x, .int .i64 c.y, .slice xa c.xs.length xc, .slice ba c.table.length bc, .slice ra c.rows.length rc] 78) = W := ⟨_, rfl⟩
  have hbW : Below w.heap.size w W := by rw [← hW]; exact (Below.refl _ _).alloc (Nat.le_refl _) _
  have HB : Hid (Below w.heap.size w W) := hbW
  have HC : Hid (CnAt W c (.slice ta c.terms.length tc) (.slice xa c.xs.length xc) (.slice ba c.table.length bc) (.slice ra c.rows.length rc)) := h.below hbW
  have HXO : Hid (0 < c.xs.length → ∃ b off, xa = some ⟨b, off, none⟩ ∧ b < w.heap.size ∧ ∀ j (h : j < c.xs.length), w.cell? ⟨b, off + j, none⟩ = some (.int .i64 c.xs[j])) := hxo
  have HBO : Hid (0 < c.table.length → ∃ b off, ba = some ⟨b, off, none⟩ ∧ b < w.heap.size ∧ ∀ j (h : j < c.table.length), w.cell? ⟨b, off + j, none⟩ = some (.int .i64 c.table[j])) := hbo
  have HRO : Hid (0 < c.rows.length → ∃ b off, ra = some ⟨b, off, none⟩ ∧ b < w.heap.size ∧ ∀ j (h : j < c.rows.length), ∃ u, w.cell? ⟨b, off + j, none⟩ = some u ∧ IntsAt w u c.rows[j]) := hro
  have c0 : W.cell? ⟨w.heap.size, 0, none⟩ = some (.int .i64 8) := by rw [← hW]; simp
  have c1 : W.cell? ⟨w.heap.size, 1, none⟩ = some (.int .i64 c.op) := by rw [← hW]; simp
  have c2 : W.cell? ⟨w.heap.size, 2, none⟩ = some (.slice ta c.terms.length tc) := by rw [← hW]; simp
  have c3 : W.cell? ⟨w.heap.size, 3, none⟩ = some (.int .i64 c.k) := by rw [← hW]; simp
  have c4 : W.cell? ⟨w.heap.size, 4, none⟩ = some (.int .i64 c.v) := by rw [← hW]; simp
  have c5 : W.cell? ⟨w.heap.size, 5, none⟩ = some (.int .i64 c.x) := by rw [← hW]; simp
  have c6 : W.cell? ⟨w.heap.size, 6, none⟩ = some (.int .i64 c.y) := by rw [← hW]; simp
  have c7 : W.cell? ⟨w.heap.size, 7, none⟩ = some (.slice xa c.xs.length xc) := by rw [← hW]; simp
  have c8 : W.cell? ⟨w.heap.size, 8, none⟩ = some (.slice ba c.table.length bc) := by rw [← hW]; simp
  have c9 : W.cell? ⟨w.heap.size, 9, none⟩ = some (.slice ra c.rows.length rc) := by rw [← hW]; simp
  have hsz : W.heap.size = w.heap.size + 1 := by rw [← hW]; simp
  have hsN : w.heap.size < W.heap.size := by omega
  have HCC : Hid (∀ w', Below W.heap.size W w' → w'.cell? ⟨w.heap.size, 0, none⟩ = some (.int .i64 8) ∧ w'.cell? ⟨w.heap.size, 1, none⟩ = some (.int .i64 c.op) ∧ w'.cell? ⟨w.heap.size, 2, none⟩ = some (.slice ta c.terms.length tc) ∧ w'.cell? ⟨w.heap.size, 3, none⟩ = some (.int .i64 c.k) ∧ w'.cell? ⟨w.heap.size, 4, none⟩ = some (.int .i64 c.v) ∧ w'.cell? ⟨w.heap.size, 5, none⟩ = some (.int .i64 c.x) ∧ w'.cell? ⟨w.heap.size, 6, none⟩ = some (.int .i64 c.y) ∧ w'.cell? ⟨w.heap.size, 7, none⟩ = some (.slice xa c.xs.length xc) ∧ w'.cell? ⟨w.heap.size, 8, none⟩ = some (.slice ba c.table.length bc) ∧ w'.cell? ⟨w.heap.size, 9, none⟩ = some (.slice ra c.rows.length rc)) := fun w' hb => ⟨(hb.cell (p := ⟨w.heap.size, 0, none⟩) hsN).trans c0, (hb.cell (p := ⟨w.heap.size, 1, none⟩) hsN).trans c1, (hb.cell (p := ⟨w.heap.size, 2, none⟩) hsN).trans c2, (hb.cell (p := ⟨w.heap.size, 3, none⟩) hsN).trans c3, (hb.cell (p := ⟨w.heap.size, 4, none⟩) hsN).trans c4, (hb.cell (p := ⟨w.heap.size, 5, none⟩) hsN).trans c5, (hb.cell (p := ⟨w.heap.size, 6, none⟩) hsN).trans c6, (hb.cell (p := ⟨w.heap.size, 7, none⟩) hsN).trans c7, (hb.cell (p := ⟨w.heap.size, 8, none⟩) hsN).trans c8, (hb.cell (p := ⟨w.heap.size, 9, none⟩) hsN).trans c9⟩
  have H85 : Hid (∀ w', CnAt w' c (.slice ta c.terms.length tc) (.slice xa c.xs.length xc) (.slice ba c.table.length bc) (.slice ra c.rows.length rc) → Calls Tryz.prog 122 #[cnVal c (.slice ta c.terms.length tc) (.slice xa c.xs.length xc) (.slice ba c.table.length bc) (.slice ra c.rows.length rc)] w' fun e w'' => e = .returned (.bool (Md.plainBad c || Md.listBad c)) ∧ Below w'.heap.size w' w'') := hfg
  have H87 : Hid (∀ w', CnAt w' c (.slice ta c.terms.length tc) (.slice xa c.xs.length xc) (.slice ba c.table.length bc) (.slice ra c.rows.length rc) → Calls Tryz.prog 124 #[cnVal c (.slice ta c.terms.length tc) (.slice xa c.xs.length xc) (.slice ba c.table.length bc) (.slice ra c.rows.length rc)] w' fun e w'' => e = .returned (.bool (!(decide (8 < c.xs.length) || Md.fewB c.rows.length 64 || !(c.rows.all fun r => r.length == c.xs.length)))) ∧ Below w'.heap.size w' w'') := fun w' h' => rowsOk_any c _ _ _ _ w' h'
  have H88 : Hid (∀ w', CnAt w' c (.slice ta c.terms.length tc) (.slice xa c.xs.length xc) (.slice ba c.table.length bc) (.slice ra c.rows.length rc) → Calls Tryz.prog 125 #[cnVal c (.slice ta c.terms.length tc) (.slice xa c.xs.length xc) (.slice ba c.table.length bc) (.slice ra c.rows.length rc), .int .i64 n] w' fun e w'' => e = .returned (.bool (Md.plB n c.x && Md.plB n c.y && c.xs.all (Md.plB n))) ∧ Below w'.heap.size w' w'') := fun w' h' => places_any c _ _ _ _ n w' h'
  clear hfg
  unfold cnVal at H85 H87 H88
  rw [hk] at H85 H87 H88
  unfold cnVal
  clear h hxo hbo hro hbW hsz
  have hkr : Hid (1 ≤ c.kind ∧ c.kind ≤ 9) := by rw [hk]; exact ⟨by decide, by decide⟩
  have hkb : Hid (Md.kindBad c.kind c.op = false) := kind_ok' hkr.out (fun h => by rw [hk] at h; exact absurd h.1 (by decide))
  go_enter Tryz.func76, Tryz.ntmps76
  go_wp2_with fail
  refine calls_at (H85.out _ HC.out) (by with_reducible rfl) (by with_reducible rfl) ?_
  rintro e w1 ⟨rfl, hb1⟩
  have HB1 : Hid (Below W.heap.size W w1) := hb1
  cases hfb : (Md.plainBad c || Md.listBad c)
  rotate_left
  · have hres : Hid (Md.fault c n = 48) := by show _ = _; exact fault48' hkb.out hfb
    go_wp2_with fail
    go_ret
    exact ⟨ret_int hres.out.symm, HB.out.trans (Below.mono hb1 HB.out.size)⟩
  have HFB : Hid ((Md.plainBad c || Md.listBad c) = false) := hfb
  clear hfb c0 c1 c2 c3 c4 c5 c6 c7 c8 c9
  obtain ⟨a0, a1, a2, a3, a4, a5, a6, a7, a8, a9⟩ := HCC.out _ hb1
  clear hb1
  go_wp2_with (first | (go_at_call 123; refine (lists_any _ _).mono ?_; rintro e w' ⟨rfl, hww⟩; rw [hww, show Md.fXs 8 = true from rfl]))
  refine (many_any c.xs.length _).mono ?_
  rintro e w' ⟨rfl, hww⟩
  rw [hww]
  clear hww
  cases hm1 : Md.fewB c.xs.length 64
  rotate_left
  · have hres : Hid (Md.fault c n = 47) := by show _ = _; exact fault47' hkb.out HFB.out (many8 hk (.inl hm1))
    go_wp2_with fail
    go_ret
    exact ⟨ret_int hres.out.symm, HB.out.trans (Below.mono HB1.out HB.out.size)⟩
  go_wp2_with (first | (go_at_call 123; refine (lists_any _ _).mono ?_; rintro e w' ⟨rfl, hww⟩; rw [hww, show Md.fXs 8 = true from rfl]))
  refine calls_at (H87.out _ (HC.out.below HB1.out)) (by with_reducible rfl) (by with_reducible rfl) ?_
  rintro e w2 ⟨rfl, hb2⟩
  have HB2 : Hid (Below W.heap.size W w2) := HB1.out.trans (hb2.mono HB1.out.size)
  clear hb2
  cases hm2 : (decide (8 < c.xs.length) || Md.fewB c.rows.length 64 || !(c.rows.all fun r => r.length == c.xs.length))
  rotate_left
  · have hres : Hid (Md.fault c n = 47) := by show _ = _; exact fault47' hkb.out HFB.out (many8 hk (.inr hm2))
    go_wp2_with fail
    go_ret
    exact ⟨ret_int hres.out.symm, HB.out.trans (Below.mono HB2.out HB.out.size)⟩
  have hmb : Hid (Md.manyBad c = false) := many8f hk hm1 hm2
  clear HB1 a0 a1 a2 a3 a4 a5 a6 a7 a8 a9 hm1 hm2
  obtain ⟨a0, a1, a2, a3, a4, a5, a6, a7, a8, a9⟩ := HCC.out _ HB2.out
  have HB1 : Hid (Below W.heap.size W w2) := HB2.out
  go_wp2_with (first | (go_at_call 123; refine (lists_any _ _).mono ?_; rintro e w' ⟨rfl, hww⟩; rw [hww, show Md.fXs 8 = true from rfl]))
  refine (terms_any _ c.terms n _ (HC.out.below HB1.out).t).mono ?_
  rintro e w' ⟨rfl, hww⟩
  rw [hww]
  clear hww
  obtain ⟨r, hr⟩ : ∃ r, termsE c.terms n = r := ⟨_, rfl⟩
  rw [hr]
  have HRE : Hid (termsE c.terms n = r) := hr
  clear hr
  go_wp2_with fail
  refine calls_at (H88.out _ (HC.out.below HB1.out)) (by with_reducible rfl) (by with_reducible rfl) ?_
  rintro e w3 ⟨rfl, hb3⟩
  have HB3 : Hid (Below W.heap.size W w3) := HB1.out.trans (hb3.mono HB1.out.size)
  clear hb3 a0 a1 a2 a3 a4 a5 a6 a7 a8 a9
  obtain ⟨a0, a1, a2, a3, a4, a5, a6, a7, a8, a9⟩ := HCC.out _ HB3.out
  cases hps : (Md.plB n c.x && Md.plB n c.y && c.xs.all (Md.plB n))
  · have hres : Hid (Md.fault c n = 44) := by show _ = _; exact fault44' hkb.out HFB.out hmb.out (pl1 hps)
    go_wp2_with fail
    go_ret
    exact ⟨ret_int hres.out.symm, HB.out.trans (Below.mono HB3.out HB.out.size)⟩
  rcases termsE_is c.terms n with ⟨h1, h2⟩ | ⟨h1, h2, h3⟩ | ⟨h1, h2, h3⟩
  · obtain rfl : r = 44 := HRE.out.symm.trans h1
    have hres : Hid (Md.fault c n = 44) := by show _ = _; exact fault44' hkb.out HFB.out hmb.out (pl2 h2)
    go_wp2_with fail
    go_ret
    exact ⟨ret_int hres.out.symm, HB.out.trans (Below.mono HB3.out HB.out.size)⟩
  · obtain rfl : r = 45 := HRE.out.symm.trans h1
    have hres : Hid (Md.fault c n = 45) := by show _ = _; exact fault45' hkb.out HFB.out hmb.out (pl3 hps h2) h3
    go_wp2_with fail
    go_ret
    exact ⟨ret_int hres.out.symm, HB.out.trans (Below.mono HB3.out HB.out.size)⟩
  · obtain rfl : r = 0 := HRE.out.symm.trans h1
    have Hpc : Hid (Md.placesB c n = true ∧ Md.coefsB c.terms = true) := ⟨pl3 hps h2, h3⟩
    clear h1 h2 h3 hps
    cases hnk : Md.numB c.k
    · have hres : Hid (Md.fault c n = 46) := by show _ = _; exact fault46' hkb.out HFB.out hmb.out Hpc.out.1 Hpc.out.2 (by simp [Md.numsB, hnk])
      go_wp2_with (go_at_call 126; refine (number_any _ _).mono ?_; rintro e w' ⟨rfl, hww⟩; rw [hww])
      go_ret
      exact ⟨ret_int hres.out.symm, HB.out.trans (Below.mono HB3.out HB.out.size)⟩
    cases hnv : Md.numB c.v
    · have hres : Hid (Md.fault c n = 46) := by show _ = _; exact fault46' hkb.out HFB.out hmb.out Hpc.out.1 Hpc.out.2 (by simp [Md.numsB, hnv])
      go_wp2_with (go_at_call 126; refine (number_any _ _).mono ?_; rintro e w' ⟨rfl, hww⟩; rw [hww])
      go_ret
      exact ⟨ret_int hres.out.symm, HB.out.trans (Below.mono HB3.out HB.out.size)⟩
    go_wp2_with (go_at_call 126; refine (number_any _ _).mono ?_; rintro e w' ⟨rfl, hww⟩; rw [hww])
    go_loop [7] (fun iv => ∃ k : Nat, iv = .int .i64 (k : Int) ∧ k ≤ c.rows.length ∧ Hid ((c.rows.take k).all (fun r => r.all Md.numB) = true)) (fun iv => c.rows.length - (intOf iv).toNat)
    case atStart => exact ⟨0, rfl, Nat.zero_le _, (show _ = _ by simp)⟩
    case round =>
      obtain ⟨k, rfl, hkk, hA⟩ := hrel
      by_cases hlt : k < c.rows.length
      · obtain ⟨b, off, rfl, hb, hc⟩ := HRO.out (by omega)
        obtain ⟨u, hcell, hu⟩ := hc k hlt
        have hcw := ((HB.out.trans (HB3.out.mono HB.out.size)).cell (p := ⟨b, off + k, none⟩) hb).trans hcell
        obtain ⟨ua, uc, rfl, hum, huo⟩ := hu
        unfold maxLen at hum
        have HUO : Hid (0 < (c.rows[k]).length → ∃ b off, ua = some ⟨b, off, none⟩ ∧ b < w.heap.size ∧ ∀ j (h : j < (c.rows[k]).length), w.cell? ⟨b, off + j, none⟩ = some (.int .i64 (c.rows[k])[j])) := huo
        have hkI : (k : Int) < (c.rows.length : Int) := by omega
        clear hc hcell huo
        go_wp2_with fail
        go_loop [8] (fun jv => ∃ j : Nat, jv = .int .i64 (j : Int) ∧ j ≤ (c.rows[k]).length ∧ Hid (((c.rows[k]).take j).all Md.numB = true)) (fun jv => (c.rows[k]).length - (intOf jv).toNat)
        case atStart => exact ⟨0, rfl, Nat.zero_le _, (show _ = _ by simp)⟩
        case round =>
          obtain ⟨j, rfl, hj, hJ⟩ := hrel
          by_cases hjl : j < (c.rows[k]).length
          · obtain ⟨bu, ou, rfl, hbu, hcu⟩ := HUO.out (by omega)
            have hcj := ((HB.out.trans (HB3.out.mono HB.out.size)).cell (p := ⟨bu, ou + j, none⟩) hbu).trans (hcu j hjl)
            have hjI : (j : Int) < ((c.rows[k]).length : Int) := by omega
            clear hcu
            cases hp : Md.numB (c.rows[k])[j]
            · have hres : Hid (Md.fault c n = 46) := fault46' hkb.out HFB.out hmb.out Hpc.out.1 Hpc.out.2 (nums_row (Md.all_stop hlt (Md.all_stop hjl hp)))
              generalize (c.rows[k])[j] = y at *
              go_wp2_with (go_at_call 126; refine (number_any _ _).mono ?_; rintro e w' ⟨rfl, hww⟩; rw [hww])
              go_ret
              exact ⟨ret_int hres.out.symm, HB.out.trans (Below.mono HB3.out HB.out.size)⟩
            · have hnx : Hid (((c.rows[k]).take (j + 1)).all Md.numB = true) := Md.all_next hJ.out hjl hp
              generalize (c.rows[k])[j] = y at *
              go_wp2_with (go_at_call 126; refine (number_any _ _).mono ?_; rintro e w' ⟨rfl, hww⟩; rw [hww])
              go_round
              case rel => exact ⟨j + 1, by go_num, by omega, hnx⟩
              case measure => simp [intOf]; omega
          · have hjI : ¬ (j : Int) < ((c.rows[k]).length : Int) := by omega
            have hnx : Hid ((c.rows.take (k + 1)).all (fun r => r.all Md.numB) = true) := Md.all_next hA.out hlt (Md.all_done hJ.out (by omega))
            go_wp2_with fail
            go_round
            case rel => exact ⟨k + 1, by go_num, by omega, hnx⟩
            case measure => simp [intOf]; omega
      · have hkI : ¬ (k : Int) < (c.rows.length : Int) := by omega
        have hrn : Hid (c.rows.all (fun r => r.all Md.numB) = true) := Md.all_done hA.out (by omega)
        go_wp2_with fail
        go_loop [9] (fun iv => ∃ k : Nat, iv = .int .i64 (k : Int) ∧ k ≤ c.table.length ∧ Hid ((c.table.take k).all Md.numB = true)) (fun iv => c.table.length - (intOf iv).toNat)
        case atStart => exact ⟨0, rfl, Nat.zero_le _, (show _ = _ by simp)⟩
        case round =>
          obtain ⟨j, rfl, hj, hJ⟩ := hrel
          by_cases hjl : j < c.table.length
          · obtain ⟨bu, ou, rfl, hbu, hcu⟩ := HBO.out (by omega)
            have hcj := ((HB.out.trans (HB3.out.mono HB.out.size)).cell (p := ⟨bu, ou + j, none⟩) hbu).trans (hcu j hjl)
            have hjI : (j : Int) < (c.table.length : Int) := by omega
            clear hcu
            cases hp : Md.numB c.table[j]
            · have hres : Hid (Md.fault c n = 46) := fault46' hkb.out HFB.out hmb.out Hpc.out.1 Hpc.out.2 (nums_tab (Md.all_stop hjl hp))
              generalize c.table[j] = y at *
              go_wp2_with (go_at_call 126; refine (number_any _ _).mono ?_; rintro e w' ⟨rfl, hww⟩; rw [hww])
              go_ret
              exact ⟨ret_int hres.out.symm, HB.out.trans (Below.mono HB3.out HB.out.size)⟩
            · have hnx : Hid ((c.table.take (j + 1)).all Md.numB = true) := Md.all_next hJ.out hjl hp
              generalize c.table[j] = y at *
              go_wp2_with (go_at_call 126; refine (number_any _ _).mono ?_; rintro e w' ⟨rfl, hww⟩; rw [hww])
              go_round
              case rel => exact ⟨j + 1, by go_num, by omega, hnx⟩
              case measure => simp [intOf]; omega
          · have hjI : ¬ (j : Int) < (c.table.length : Int) := by omega
            have hres : Hid (Md.fault c n = 0) := fault0' hkb.out HFB.out hmb.out Hpc.out.1 Hpc.out.2 (by simp [Md.numsB, hnk, hnv, hrn.out, Md.all_done hJ.out (show c.table.length ≤ j by omega)])
            go_wp2_with fail
            go_ret
            exact ⟨ret_int hres.out.symm, HB.out.trans (Below.mono HB3.out HB.out.size)⟩
end Go.Proofs.YtchpapppkmnfnaaGreatDoor.Doc
