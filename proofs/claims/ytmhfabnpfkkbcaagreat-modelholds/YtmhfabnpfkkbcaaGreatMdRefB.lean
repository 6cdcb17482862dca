/-
  The document's side of package model: places, rows, foreign.
-/
import Derived.Test.YtmhfabnpfkkbcaaGreatMdRefA
namespace Go.Proofs.YtmhfabnpfkkbcaaGreat
open Go.RowKit

set_option maxRecDepth 10000 in
set_option maxHeartbeats 2000000 in
theorem places_any (c : Md.Cn) (vt vx vb vr : Value) (n : Int) (w : World) (h : CnAt w c vt vx vb vr) : Calls Tryz.prog 88 #[cnVal c vt vx vb vr, .int .i64 n] w fun e w' => e = .returned (.bool (Md.plB n c.x && Md.plB n c.y && c.xs.all (Md.plB n))) ∧ Below w.heap.size w w' := by
  obtain ⟨ta, tc, rfl, _⟩ := id h.t
  obtain ⟨xa, xc, rfl, hxm, hxo⟩ := id h.x
  obtain ⟨ba, bc, rfl, hbm, hbo⟩ := id h.b
  obtain ⟨ra, rc, rfl, hrm, hro⟩ := id h.r
  unfold maxLen at hxm hbm hrm
  obtain ⟨W, hW⟩ : ∃ W, w.alloc (.cells #[.int .i64 c.kind, .int .i64 c.op, .slice ta c.terms.length tc, .int .i64 c.k, .int .i64 c.v, .int .i64 c.x, .int .i64 c.y, .slice xa c.xs.length xc, .slice ba c.table.length bc, .slice ra c.rows.length rc] 62) = W := ⟨_, rfl⟩
  have hbW : Below w.heap.size w W := by rw [← hW]; exact (Below.refl _ _).alloc (Nat.le_refl _) _
  have HB : Hid (Below w.heap.size w W) := hbW
  have HC : Hid (CnAt W c (.slice ta c.terms.length tc) (.slice xa c.xs.length xc) (.slice ba c.table.length bc) (.slice ra c.rows.length rc)) := h.below hbW
  have HXO : Hid (0 < c.xs.length → ∃ b off, xa = some ⟨b, off, none⟩ ∧ b < w.heap.size ∧ ∀ j (h : j < c.xs.length), w.cell? ⟨b, off + j, none⟩ = some (.int .i64 c.xs[j])) := hxo
  have HBO : Hid (0 < c.table.length → ∃ b off, ba = some ⟨b, off, none⟩ ∧ b < w.heap.size ∧ ∀ j (h : j < c.table.length), w.cell? ⟨b, off + j, none⟩ = some (.int .i64 c.table[j])) := hbo
  have HRO : Hid (0 < c.rows.length → ∃ b off, ra = some ⟨b, off, none⟩ ∧ b < w.heap.size ∧ ∀ j (h : j < c.rows.length), ∃ u, w.cell? ⟨b, off + j, none⟩ = some u ∧ IntsAt w u c.rows[j]) := hro
  have c0 : W.cell? ⟨w.heap.size, 0, none⟩ = some (.int .i64 c.kind) := by rw [← hW]; simp
  have c1 : W.cell? ⟨w.heap.size, 1, none⟩ = some (.int .i64 c.op) := by rw [← hW]; simp
  have c2 : W.cell? ⟨w.heap.size, 2, none⟩ = some (.slice ta c.terms.length tc) := by rw [← hW]; simp
  have c3 : W.cell? ⟨w.heap.size, 3, none⟩ = some (.int .i64 c.k) := by rw [← hW]; simp
  have c4 : W.cell? ⟨w.heap.size, 4, none⟩ = some (.int .i64 c.v) := by rw [← hW]; simp
  have c5 : W.cell? ⟨w.heap.size, 5, none⟩ = some (.int .i64 c.x) := by rw [← hW]; simp
  have c6 : W.cell? ⟨w.heap.size, 6, none⟩ = some (.int .i64 c.y) := by rw [← hW]; simp
  have c7 : W.cell? ⟨w.heap.size, 7, none⟩ = some (.slice xa c.xs.length xc) := by rw [← hW]; simp
  have c8 : W.cell? ⟨w.heap.size, 8, none⟩ = some (.slice ba c.table.length bc) := by rw [← hW]; simp
  have c9 : W.cell? ⟨w.heap.size, 9, none⟩ = some (.slice ra c.rows.length rc) := by rw [← hW]; simp
  have hsz : W.heap.size = w.heap.size + 1 := by rw [← hW]; simp
  have hsN : w.heap.size < W.heap.size := by omega
  have HCC : Hid (∀ w', Below W.heap.size W w' → w'.cell? ⟨w.heap.size, 0, none⟩ = some (.int .i64 c.kind) ∧ w'.cell? ⟨w.heap.size, 1, none⟩ = some (.int .i64 c.op) ∧ w'.cell? ⟨w.heap.size, 2, none⟩ = some (.slice ta c.terms.length tc) ∧ w'.cell? ⟨w.heap.size, 3, none⟩ = some (.int .i64 c.k) ∧ w'.cell? ⟨w.heap.size, 4, none⟩ = some (.int .i64 c.v) ∧ w'.cell? ⟨w.heap.size, 5, none⟩ = some (.int .i64 c.x) ∧ w'.cell? ⟨w.heap.size, 6, none⟩ = some (.int .i64 c.y) ∧ w'.cell? ⟨w.heap.size, 7, none⟩ = some (.slice xa c.xs.length xc) ∧ w'.cell? ⟨w.heap.size, 8, none⟩ = some (.slice ba c.table.length bc) ∧ w'.cell? ⟨w.heap.size, 9, none⟩ = some (.slice ra c.rows.length rc)) := fun w' hb => ⟨(hb.cell (p := ⟨w.heap.size, 0, none⟩) hsN).trans c0, (hb.cell (p := ⟨w.heap.size, 1, none⟩) hsN).trans c1, (hb.cell (p := ⟨w.heap.size, 2, none⟩) hsN).trans c2, (hb.cell (p := ⟨w.heap.size, 3, none⟩) hsN).trans c3, (hb.cell (p := ⟨w.heap.size, 4, none⟩) hsN).trans c4, (hb.cell (p := ⟨w.heap.size, 5, none⟩) hsN).trans c5, (hb.cell (p := ⟨w.heap.size, 6, none⟩) hsN).trans c6, (hb.cell (p := ⟨w.heap.size, 7, none⟩) hsN).trans c7, (hb.cell (p := ⟨w.heap.size, 8, none⟩) hsN).trans c8, (hb.cell (p := ⟨w.heap.size, 9, none⟩) hsN).trans c9⟩
  unfold cnVal
  clear h hxo hbo hro hbW hsz
  obtain ⟨q, hq⟩ : ∃ q, (Md.plB n c.x && Md.plB n c.y) = q := ⟨_, rfl⟩
  have HQ : Hid ((Md.plB n c.x && Md.plB n c.y) = q) := hq
  rw [hq]
  have tail : ∀ (qv : Bool), qv = q → True := fun _ _ => trivial
  clear hq tail
  cases p1 : Md.plB n c.x
  all_goals cases p2 : Md.plB n c.y
  all_goals
    go_enter Tryz.func88, Tryz.ntmps88
    go_wp2_with (go_at_call 114; refine (place_any _ _ _).mono ?_; rintro e w' ⟨rfl, rfl⟩)
    have hq2 : Hid (_ = q) := HQ.out
    rw [p1, p2] at hq2
    go_loop [5, 6] (fun bv iv => ∃ k : Nat, iv = .int .i64 (k : Int) ∧ k ≤ c.xs.length ∧ bv = .bool (q && (c.xs.take k).all (Md.plB n))) (fun _ iv => c.xs.length - (intOf iv).toNat)
    case atStart => exact ⟨0, rfl, Nat.zero_le _, by rw [← hq2.out]; simp⟩
    case round =>
      obtain ⟨k, rfl, hk, rfl⟩ := hrel
      by_cases hlt : k < c.xs.length
      · obtain ⟨b, off, rfl, hb, hc⟩ := HXO.out (by omega)
        have hcell := (HB.out.cell (p := ⟨b, off + k, none⟩) hb).trans (hc k hlt)
        have hkI : (k : Int) < (c.xs.length : Int) := by omega
        have hnx : Hid ((q && (c.xs.take (k + 1)).all (Md.plB n)) = ((q && (c.xs.take k).all (Md.plB n)) && Md.plB n c.xs[k])) := by
          show _ = _
          rw [List.take_succ_eq_append_getElem hlt, List.all_append]; simp [Bool.and_assoc]
        clear hc
        generalize c.xs[k] = x at *
        cases hb1 : (q && (c.xs.take k).all (Md.plB n))
        · rw [hb1] at hnx
          go_wp2
          go_round
          case rel => exact ⟨k + 1, by go_num, by omega, by rw [hnx.out]; simp⟩
          case measure => simp [intOf]; omega
        · rw [hb1] at hnx
          go_wp2_with (go_at_call 114; refine (place_any _ _ _).mono ?_; rintro e w' ⟨rfl, rfl⟩)
          go_round
          case rel => exact ⟨k + 1, by go_num, by omega, by rw [hnx.out]; simp⟩
          case measure => simp [intOf]; omega
      · have hkI : ¬ (k : Int) < (c.xs.length : Int) := by omega
        rw [List.take_of_length_le (by omega)]
        go_wp2
        go_ret
        exact ⟨rfl, HB.out⟩

set_option maxRecDepth 10000 in
set_option maxHeartbeats 2000000 in
theorem rowsOk_any (c : Md.Cn) (vt vx vb vr : Value) (w : World) (h : CnAt w c vt vx vb vr) : Calls Tryz.prog 87 #[cnVal c vt vx vb vr] w fun e w' => e = .returned (.bool (!(decide (8 < c.xs.length) || Md.fewB c.rows.length 64 || !(c.rows.all fun r => r.length == c.xs.length)))) ∧ Below w.heap.size w w' := by
  obtain ⟨ta, tc, rfl, _⟩ := id h.t
  obtain ⟨xa, xc, rfl, hxm, hxo⟩ := id h.x
  obtain ⟨ba, bc, rfl, hbm, hbo⟩ := id h.b
  obtain ⟨ra, rc, rfl, hrm, hro⟩ := id h.r
  unfold maxLen at hxm hbm hrm
  obtain ⟨W, hW⟩ : ∃ W, w.alloc (.cells #[.int .i64 c.kind, .int .i64 c.op, .slice ta c.terms.length tc, .int .i64 c.k, .int .i64 c.v, .int .i64 c.x, .int .i64 c.y, .slice xa c.xs.length xc, .slice ba c.table.length bc, .slice ra c.rows.length rc] 62) = W := ⟨_, rfl⟩
  have hbW : Below w.heap.size w W := by rw [← hW]; exact (Below.refl _ _).alloc (Nat.le_refl _) _
  have HB : Hid (Below w.heap.size w W) := hbW
  have HC : Hid (CnAt W c (.slice ta c.terms.length tc) (.slice xa c.xs.length xc) (.slice ba c.table.length bc) (.slice ra c.rows.length rc)) := h.below hbW
  have HXO : Hid (0 < c.xs.length → ∃ b off, xa = some ⟨b, off, none⟩ ∧ b < w.heap.size ∧ ∀ j (h : j < c.xs.length), w.cell? ⟨b, off + j, none⟩ = some (.int .i64 c.xs[j])) := hxo
  have HBO : Hid (0 < c.table.length → ∃ b off, ba = some ⟨b, off, none⟩ ∧ b < w.heap.size ∧ ∀ j (h : j < c.table.length), w.cell? ⟨b, off + j, none⟩ = some (.int .i64 c.table[j])) := hbo
  have HRO : Hid (0 < c.rows.length → ∃ b off, ra = some ⟨b, off, none⟩ ∧ b < w.heap.size ∧ ∀ j (h : j < c.rows.length), ∃ u, w.cell? ⟨b, off + j, none⟩ = some u ∧ IntsAt w u c.rows[j]) := hro
  have c0 : W.cell? ⟨w.heap.size, 0, none⟩ = some (.int .i64 c.kind) := by rw [← hW]; simp
  have c1 : W.cell? ⟨w.heap.size, 1, none⟩ = some (.int .i64 c.op) := by rw [← hW]; simp
  have c2 : W.cell? ⟨w.heap.size, 2, none⟩ = some (.slice ta c.terms.length tc) := by rw [← hW]; simp
  have c3 : W.cell? ⟨w.heap.size, 3, none⟩ = some (.int .i64 c.k) := by rw [← hW]; simp
  have c4 : W.cell? ⟨w.heap.size, 4, none⟩ = some (.int .i64 c.v) := by rw [← hW]; simp
  have c5 : W.cell? ⟨w.heap.size, 5, none⟩ = some (.int .i64 c.x) := by rw [← hW]; simp
  have c6 : W.cell? ⟨w.heap.size, 6, none⟩ = some (.int .i64 c.y) := by rw [← hW]; simp
  have c7 : W.cell? ⟨w.heap.size, 7, none⟩ = some (.slice xa c.xs.length xc) := by rw [← hW]; simp
  have c8 : W.cell? ⟨w.heap.size, 8, none⟩ = some (.slice ba c.table.length bc) := by rw [← hW]; simp
  have c9 : W.cell? ⟨w.heap.size, 9, none⟩ = some (.slice ra c.rows.length rc) := by rw [← hW]; simp
  have hsz : W.heap.size = w.heap.size + 1 := by rw [← hW]; simp
  have hsN : w.heap.size < W.heap.size := by omega
  have HCC : Hid (∀ w', Below W.heap.size W w' → w'.cell? ⟨w.heap.size, 0, none⟩ = some (.int .i64 c.kind) ∧ w'.cell? ⟨w.heap.size, 1, none⟩ = some (.int .i64 c.op) ∧ w'.cell? ⟨w.heap.size, 2, none⟩ = some (.slice ta c.terms.length tc) ∧ w'.cell? ⟨w.heap.size, 3, none⟩ = some (.int .i64 c.k) ∧ w'.cell? ⟨w.heap.size, 4, none⟩ = some (.int .i64 c.v) ∧ w'.cell? ⟨w.heap.size, 5, none⟩ = some (.int .i64 c.x) ∧ w'.cell? ⟨w.heap.size, 6, none⟩ = some (.int .i64 c.y) ∧ w'.cell? ⟨w.heap.size, 7, none⟩ = some (.slice xa c.xs.length xc) ∧ w'.cell? ⟨w.heap.size, 8, none⟩ = some (.slice ba c.table.length bc) ∧ w'.cell? ⟨w.heap.size, 9, none⟩ = some (.slice ra c.rows.length rc)) := fun w' hb => ⟨(hb.cell (p := ⟨w.heap.size, 0, none⟩) hsN).trans c0, (hb.cell (p := ⟨w.heap.size, 1, none⟩) hsN).trans c1, (hb.cell (p := ⟨w.heap.size, 2, none⟩) hsN).trans c2, (hb.cell (p := ⟨w.heap.size, 3, none⟩) hsN).trans c3, (hb.cell (p := ⟨w.heap.size, 4, none⟩) hsN).trans c4, (hb.cell (p := ⟨w.heap.size, 5, none⟩) hsN).trans c5, (hb.cell (p := ⟨w.heap.size, 6, none⟩) hsN).trans c6, (hb.cell (p := ⟨w.heap.size, 7, none⟩) hsN).trans c7, (hb.cell (p := ⟨w.heap.size, 8, none⟩) hsN).trans c8, (hb.cell (p := ⟨w.heap.size, 9, none⟩) hsN).trans c9⟩
  unfold cnVal
  clear h hxo hbo hro hbW hsz
  by_cases h8 : 8 < c.xs.length
  · have h8I : (8 : Int) < (c.xs.length : Int) := by omega
    go_enter Tryz.func87, Tryz.ntmps87
    go_wp2
    go_ret
    exact ⟨ret_bool (by simp [h8]), HB.out⟩
  · have h8I : ¬ (8 : Int) < (c.xs.length : Int) := by omega
    cases hfw : Md.fewB c.rows.length 64
    · go_enter Tryz.func87, Tryz.ntmps87
      go_wp2_with (go_at_call 36; refine (many_any c.rows.length _).mono ?_; rintro e w' ⟨rfl, hww⟩; rw [hww])
      go_loopw [3] (fun iv wr => ∃ k : Nat, iv = .int .i64 (k : Int) ∧ k ≤ c.rows.length ∧ Hid ((c.rows.take k).all (fun r => r.length == c.xs.length) = true) ∧ Hid (Below W.heap.size W wr)) (fun iv _ => c.rows.length - (intOf iv).toNat)
      case atStart => exact ⟨0, rfl, Nat.zero_le _, (show _ = _ by simp), Below.refl _ _⟩
      case round =>
        obtain ⟨k, rfl, hk, hA, hB⟩ := hrel
        obtain ⟨_, _, _, _, _, _, _, a7, _, a9⟩ := HCC.out _ hB.out
        by_cases hlt : k < c.rows.length
        · obtain ⟨b, off, rfl, hb, hc⟩ := HRO.out (by omega)
          obtain ⟨u, hcell, hu⟩ := hc k hlt
          have hcw := ((HB.out.trans (hB.out.mono HB.out.size)).cell (p := ⟨b, off + k, none⟩) hb).trans hcell
          obtain ⟨ua, uc, rfl, _⟩ := hu.form
          have hkI : (k : Int) < (c.rows.length : Int) := by omega
          clear hc hu hcell
          by_cases he : (c.rows[k]).length = c.xs.length
          · have hnx : Hid ((c.rows.take (k + 1)).all (fun r => r.length == c.xs.length) = true) := Md.all_next hA.out hlt (by simpa using he)
            have heB : (((c.rows[k]).length : Int) != (c.xs.length : Int)) = false := by simp; omega
            generalize (c.rows[k]).length = y at *
            clear he
            go_wp2
            go_quiet (fail)
            go_wp2
            go_roundw
            case rel => exact ⟨k + 1, by go_num, by omega, hnx, below_drewN hB.out _⟩
            case measure => simp [intOf]; omega
          · have hres : Hid ((c.rows.all fun r => r.length == c.xs.length) = false) := Md.all_stop hlt (by simpa using he)
            have heB : (((c.rows[k]).length : Int) != (c.xs.length : Int)) = true := by simp; omega
            generalize (c.rows[k]).length = y at *
            clear he
            go_wp2
            go_quiet (fail)
            go_wp2
            go_ret
            exact ⟨ret_bool (by rw [hres.out]; simp), HB.out.trans ((below_drewN hB.out _).mono HB.out.size)⟩
        · have hkI : ¬ (k : Int) < (c.rows.length : Int) := by omega
          have hres : Hid ((c.rows.all fun r => r.length == c.xs.length) = true) := Md.all_done hA.out (by omega)
          go_wp2
          go_ret
          exact ⟨ret_bool (by rw [hres.out]), HB.out.trans (hB.out.mono HB.out.size)⟩
    · go_enter Tryz.func87, Tryz.ntmps87
      go_wp2_with (go_at_call 36; refine (many_any c.rows.length _).mono ?_; rintro e w' ⟨rfl, hww⟩; rw [hww])
      go_ret
      exact ⟨ret_bool (by simp), HB.out⟩
end Go.Proofs.YtmhfabnpfkkbcaaGreat
