/-
  Put together: MdRefB, MdV1.
-/
import Derived.Test.YtjanpglnahagdaaGreatDoorJ08
import Derived.Test.YtjanpglnahagdaaGreatDoorJ06
import Derived.BigGuardPart
namespace Go.Proofs.YtjanpglnahagdaaGreatDoor
open Go.RowKit

set_option maxRecDepth 10000 in
set_option maxHeartbeats 2000000 in
theorem places_any (c : Md.Cn) (vt vx vb vr : Value) (n : Int) (w : World) (h : CnAt w c vt vx vb vr) : Calls Tryz.prog 68 #[cnVal c vt vx vb vr, .int .i64 n] w fun e w' => e = .returned (.bool (Md.plB n c.x && Md.plB n c.y && c.xs.all (Md.plB n))) ∧ Below w.heap.size w w' := by
  obtain ⟨ta, tc, rfl, _⟩ := id h.t
  obtain ⟨xa, xc, rfl, hxm, hxo⟩ := id h.x
  obtain ⟨ba, bc, rfl, hbm, hbo⟩ := id h.b
  obtain ⟨ra, rc, rfl, hrm, hro⟩ := id h.r
  unfold maxLen at hxm hbm hrm
  obtain ⟨W, hW⟩ : ∃ W, w.alloc (.cells #[.int .i64 c.kind, .int .i64 c.op, .slice ta c.terms.length tc, .int .i64 c.k, .int .i64 c.v, .int .i64 c.x, .int .i64 c.y, .slice xa c.xs.length xc, .slice ba c.table.length bc, .slice ra c.rows.length rc] 64) = W := ⟨_, rfl⟩
  have hbW : Below w.heap.size w W := by rw [← hW]; exact (Below.refl _ _).alloc (Nat.le_refl _) _
  have HB : Hid (Below w.heap.size w W) := hbW
  have HC : Hid (CnAt W c (.slice ta c.terms.length tc) (.slice xa c.xs.length xc) (.slice ba c.table.length bc) (.slice ra c.rows.length rc)) := h.below hbW
  have HXO : Hid (0 < c.xs.length → ∃ b off, xa = some ⟨b, off, none⟩ ∧ b < w.heap.size ∧ ∀ j (h : j < c.xs.length), w.cell? ⟨b, off + j, none⟩ = some (.int .i64 c.xs[j])) := hxo
  have HBO : Hid (0 < c.table.length → ∃ b off, ba = some ⟨b, off, none⟩ ∧ b < w.heap.size ∧ ∀ j (h : j < c.table.length), w.cell? ⟨b, off + j, none⟩ = some (.int .i64 c.table[j])) := hbo
  have HRO : Hid (0 < c.rows.length → ∃ b off, ra = some ⟨b, off, none⟩ ∧ b < w.heap.size ∧ ∀ j (h : j < c.rows.length), ∃ u, w.cell? ⟨b, off + j, none⟩ = some u ∧ IntsAt w u c.rows[j]) := hro
  have c0 : W.cell? ⟨w.heap.size, 0, none⟩ = some (.int .i64 c.kind) := by rw [← hW]; simp
  have c1 : W.cell? ⟨w.heap.size, 1, none⟩ = some (.int .i64 c.op) := by rw [← hW]; simp
  have c2 : W.cell? ⟨w.heap.size, 2, none⟩ = some (.slice ta c.terms.length tc) := by rw [← hW]; simp
  have c3 : W.cell? ⟨w.heap.size, 3, none⟩ = some (.int .i64 c.k) := by rw [← hW]; simp
  have c4 : W.cell? ⟨w.heap.size, 4, none⟩ = some (.int .i64 c.v) := by rw [← hW]; simp
  have c5 : W.cell? ⟨w.heap.size, 5, none⟩ = some (.int .i64 c.x) := by rw [← hW]; simp
  have c6 : W.cell? ⟨w.heap.size, 6, none⟩ = some (.int .i64 c.y) := by rw [← hW]; simp
  have c7 : W.cell? ⟨w.heap.size, 7, none⟩ = some (.slice xa c.xs.length xc) := by rw [← hW]; simp
  have c8 : W.cell? ⟨w.heap.size, 8, none⟩ = some (.slice ba c.table.length bc) := by rw [← hW]; simp
  have c9 : W.cell? ⟨w.heap.size, 9, none⟩ = some (.slice ra c.rows.length rc) := by rw [← hW]; simp
  have hsz : W.heap.size = w.heap.size + 1 := by rw [← hW]; simp
  have hsN : w.heap.size < W.heap.size := by omega
  have HCC : Hid (∀ w', Below W.heap.size W w' → w'.cell? ⟨w.heap.size, 0, none⟩ = some (.int .i64 c.kind) ∧ w'.cell? ⟨w.heap.size, 1, none⟩ = some (.int .i64 c.op) ∧ w'.cell? ⟨w.heap.size, 2, none⟩ = some (.slice ta c.terms.length tc) ∧ w'.cell? ⟨w.heap.size, 3, none⟩ = some (.int .i64 c.k) ∧ w'.cell? ⟨w.heap.size, 4, none⟩ = some (.int .i64 c.v) ∧ w'.cell? ⟨w.heap.size, 5, none⟩ = some (.int .i64 c.x) ∧ w'.cell? ⟨w.heap.size, 6, none⟩ = some (.int .i64 c.y) ∧ w'.cell? ⟨w.heap.size, 7, none⟩ = some (.slice xa c.xs.length xc) ∧ w'.cell? ⟨w.heap.size, 8, none⟩ = some (.slice ba c.table.length bc) ∧ w'.cell? ⟨w.heap.size, 9, none⟩ = some (.slice ra c.rows.length rc)) := fun w' hb => ⟨(hb.cell (p := ⟨w.heap.size, 0, none⟩) hsN).trans c0, (hb.cell (p := ⟨w.heap.size, 1, none⟩) hsN).trans c1, (hb.cell (p := ⟨w.heap.size, 2, none⟩) hsN).trans c2, (hb.cell (p := ⟨w.heap.size, 3, none⟩) hsN).trans c3, (hb.cell (p := ⟨w.heap.size, 4, none⟩) hsN).trans c4, (hb.cell (p := ⟨w.heap.size, 5, none⟩) hsN).trans c5, (hb.cell (p := ⟨w.heap.size, 6, none⟩) hsN).trans c6, (hb.cell (p := ⟨w.heap.size, 7, none⟩) hsN).trans c7, (hb.cell (p := ⟨w.heap.size, 8, none⟩) hsN).trans c8, (hb.cell (p := ⟨w.heap.size, 9, none⟩) hsN).trans c9⟩
  unfold cnVal
  clear h hxo hbo hro hbW hsz
  obtain ⟨q, hq⟩ : ∃ q, (Md.plB n c.x && Md.plB n c.y) = q := ⟨_, rfl⟩
  have HQ : Hid ((Md.plB n c.x && Md.plB n c.y) = q) := hq
  rw [hq]
  have tail : ∀ (qv : Bool), qv = q → True := fun _ _ => trivial
  clear hq tail
  cases p1 : Md.plB n c.x
  all_goals cases p2 : Md.plB n c.y
  all_goals
    go_enter Tryz.func68, Tryz.ntmps68
    go_wp2_with (go_at_call 121; refine (place_any _ _ _).mono ?_; rintro e w' ⟨rfl, rfl⟩)
    have hq2 : Hid (_ = q) := HQ.out
    rw [p1, p2] at hq2
    go_loop [5, 6] (fun bv iv => ∃ k : Nat, iv = .int .i64 (k : Int) ∧ k ≤ c.xs.length ∧ bv = .bool (q && (c.xs.take k).all (Md.plB n))) (fun _ iv => c.xs.length - (intOf iv).toNat)
    case atStart => exact ⟨0, rfl, Nat.zero_le _, by rw [← hq2.out]; simp⟩
    case round =>
      obtain ⟨k, rfl, hk, rfl⟩ := hrel
      by_cases hlt : k < c.xs.length
      · obtain ⟨b, off, rfl, hb, hc⟩ := HXO.out (by omega)
        have hcell := (HB.out.cell (p := ⟨b, off + k, none⟩) hb).trans (hc k hlt)
        have hkI : (k : Int) < (c.xs.length : Int) := by omega
        have hnx : Hid ((q && (c.xs.take (k + 1)).all (Md.plB n)) = ((q && (c.xs.take k).all (Md.plB n)) && Md.plB n c.xs[k])) := by
          show _ = _
          rw [List.take_succ_eq_append_getElem hlt, List.all_append]; simp [Bool.and_assoc]
        clear hc
        generalize c.xs[k] = x at *
        cases hb1 : (q && (c.xs.take k).all (Md.plB n))
        · rw [hb1] at hnx
          go_wp2
          go_round
          case rel => exact ⟨k + 1, by go_num, by omega, by rw [hnx.out]; simp⟩
          case measure => simp [intOf]; omega
        · rw [hb1] at hnx
          go_wp2_with (go_at_call 121; refine (place_any _ _ _).mono ?_; rintro e w' ⟨rfl, rfl⟩)
          go_round
          case rel => exact ⟨k + 1, by go_num, by omega, by rw [hnx.out]; simp⟩
          case measure => simp [intOf]; omega
      · have hkI : ¬ (k : Int) < (c.xs.length : Int) := by omega
        rw [List.take_of_length_le (by omega)]
        go_wp2
        go_ret
        exact ⟨rfl, HB.out⟩

set_option maxRecDepth 10000 in
set_option maxHeartbeats 2000000 in
theorem rowsOk_any (c : Md.Cn) (vt vx vb vr : Value) (w : World) (h : CnAt w c vt vx vb vr) : Calls Tryz.prog 67 #[cnVal c vt vx vb vr] w fun e w' => e = .returned (.bool (!(decide (8 < c.xs.length) || Md.fewB c.rows.length 64 || !(c.rows.all fun r => r.length == c.xs.length)))) ∧ Below w.heap.size w w' := by
  obtain ⟨ta, tc, rfl, _⟩ := id h.t
  obtain ⟨xa, xc, rfl, hxm, hxo⟩ := id h.x
  obtain ⟨ba, bc, rfl, hbm, hbo⟩ := id h.b
  obtain ⟨ra, rc, rfl, hrm, hro⟩ := id h.r
  unfold maxLen at hxm hbm hrm
  obtain ⟨W, hW⟩ : ∃ W, w.alloc (.cells #[.int .i64 c.kind, .int .i64 c.op, .slice ta c.terms.length tc, .int .i64 c.k, .int .i64 c.v, .int .i64 c.x, .int .i64 c.y, .slice xa c.xs.length xc, .slice ba c.table.length bc, .slice ra c.rows.length rc] 64) = W := ⟨_, rfl⟩
  have hbW : Below w.heap.size w W := by rw [← hW]; exact (Below.refl _ _).alloc (Nat.le_refl _) _
  have HB : Hid (Below w.heap.size w W) := hbW
  have HC : Hid (CnAt W c (.slice ta c.terms.length tc) (.slice xa c.xs.length xc) (.slice ba c.table.length bc) (.slice ra c.rows.length rc)) := h.below hbW
  have HXO : Hid (0 < c.xs.length → ∃ b off, xa = some ⟨b, off, none⟩ ∧ b < w.heap.size ∧ ∀ j (h : j < c.xs.length), w.cell? ⟨b, off + j, none⟩ = some (.int .i64 c.xs[j])) := hxo
  have HBO : Hid (0 < c.table.length → ∃ b off, ba = some ⟨b, off, none⟩ ∧ b < w.heap.size ∧ ∀ j (h : j < c.table.length), w.cell? ⟨b, off + j, none⟩ = some (.int .i64 c.table[j])) := hbo
  have HRO : Hid (0 < c.rows.length → ∃ b off, ra = some ⟨b, off, none⟩ ∧ b < w.heap.size ∧ ∀ j (h : j < c.rows.length), ∃ u, w.cell? ⟨b, off + j, none⟩ = some u ∧ IntsAt w u c.rows[j]) := hro
  have c0 : W.cell? ⟨w.heap.size, 0, none⟩ = some (.int .i64 c.kind) := by rw [← hW]; simp
  have c1 : W.cell? ⟨w.heap.size, 1, none⟩ = some (.int .i64 c.op) := by rw [← hW]; simp
  have c2 : W.cell? ⟨w.heap.size, 2, none⟩ = some (.slice ta c.terms.length tc) := by rw [← hW]; simp
  have c3 : W.cell? ⟨w.heap.size, 3, none⟩ = some (.int .i64 c.k) := by rw [← hW]; simp
  have c4 : W.cell? ⟨w.heap.size, 4, none⟩ = some (.int .i64 c.v) := by rw [← hW]; simp
  have c5 : W.cell? ⟨w.heap.size, 5, none⟩ = some (.int .i64 c.x) := by rw [← hW]; simp
  have c6 : W.cell? ⟨w.heap.size, 6, none⟩ = some (.int .i64 c.y) := by rw [← hW]; simp
  have c7 : W.cell? ⟨w.heap.size, 7, none⟩ = some (.slice xa c.xs.length xc) := by rw [← hW]; simp
  have c8 : W.cell? ⟨w.heap.size, 8, none⟩ = some (.slice ba c.table.length bc) := by rw [← hW]; simp
  have c9 : W.cell? ⟨w.heap.size, 9, none⟩ = some (.slice ra c.rows.length rc) := by rw [← hW]; simp
  have hsz : W.heap.size = w.heap.size + 1 := by rw [← hW]; simp
  have hsN : w.heap.size < W.heap.size := by omega
  have HCC : Hid (∀ w', Below W.heap.size W w' → w'.cell? ⟨w.heap.size, 0, none⟩ = some (.int .i64 c.kind) ∧ w'.cell? ⟨w.heap.size, 1, none⟩ = some (.int .i64 c.op) ∧ w'.cell? ⟨w.heap.size, 2, none⟩ = some (.slice ta c.terms.length tc) ∧ w'.cell? ⟨w.heap.size, 3, none⟩ = some (.int .i64 c.k) ∧ w'.cell? ⟨w.heap.size, 4, none⟩ = some (.int .i64 c.v) ∧ w'.cell? ⟨w.heap.size, 5, none⟩ = some (.int .i64 c.x) ∧ w'.cell? ⟨w.heap.size, 6, none⟩ = some (.int .i64 c.y) ∧ w'.cell? ⟨w.heap.size, 7, none⟩ = some (.slice xa c.xs.length xc) ∧ w'.cell? ⟨w.heap.size, 8, none⟩ = some (.slice ba c.table.length bc) ∧ w'.cell? ⟨w.heap.size, 9, none⟩ = some (.slice ra c.rows.length rc)) := fun w' hb => ⟨(hb.cell (p := ⟨w.heap.size, 0, none⟩) hsN).trans c0, (hb.cell (p := ⟨w.heap.size, 1, none⟩) hsN).trans c1, (hb.cell (p := ⟨w.heap.size, 2, none⟩) hsN).trans c2, (hb.cell (p := ⟨w.heap.size, 3, none⟩) hsN).trans c3, (hb.cell (p := ⟨w.heap.size, 4, none⟩) hsN).trans c4, (hb.cell (p := ⟨w.heap.size, 5, none⟩) hsN).trans c5, (hb.cell (p := ⟨w.heap.size, 6, none⟩) hsN).trans c6, (hb.cell (p := ⟨w.heap.size, 7, none⟩) hsN).trans c7, (hb.cell (p := ⟨w.heap.size, 8, none⟩) hsN).trans c8, (hb.cell (p := ⟨w.heap.size, 9, none⟩) hsN).trans c9⟩
  unfold cnVal
  clear h hxo hbo hro hbW hsz
  by_cases h8 : 8 < c.xs.length
  · have h8I : (8 : Int) < (c.xs.length : Int) := by omega
    go_enter Tryz.func67, Tryz.ntmps67
    go_wp2
    go_ret
    exact ⟨ret_bool (by simp [h8]), HB.out⟩
  · have h8I : ¬ (8 : Int) < (c.xs.length : Int) := by omega
    cases hfw : Md.fewB c.rows.length 64
    · go_enter Tryz.func67, Tryz.ntmps67
      go_wp2_with (go_at_call 48; refine (many_any c.rows.length _).mono ?_; rintro e w' ⟨rfl, hww⟩; rw [hww])
      go_loopw [3] (fun iv wr => ∃ k : Nat, iv = .int .i64 (k : Int) ∧ k ≤ c.rows.length ∧ Hid ((c.rows.take k).all (fun r => r.length == c.xs.length) = true) ∧ Hid (Below W.heap.size W wr)) (fun iv _ => c.rows.length - (intOf iv).toNat)
      case atStart => exact ⟨0, rfl, Nat.zero_le _, (show _ = _ by simp), Below.refl _ _⟩
      case round =>
        obtain ⟨k, rfl, hk, hA, hB⟩ := hrel
        obtain ⟨_, _, _, _, _, _, _, a7, _, a9⟩ := HCC.out _ hB.out
        by_cases hlt : k < c.rows.length
        · obtain ⟨b, off, rfl, hb, hc⟩ := HRO.out (by omega)
          obtain ⟨u, hcell, hu⟩ := hc k hlt
          have hcw := ((HB.out.trans (hB.out.mono HB.out.size)).cell (p := ⟨b, off + k, none⟩) hb).trans hcell
          obtain ⟨ua, uc, rfl, _⟩ := hu.form
          have hkI : (k : Int) < (c.rows.length : Int) := by omega
          clear hc hu hcell
          by_cases he : (c.rows[k]).length = c.xs.length
          · have hnx : Hid ((c.rows.take (k + 1)).all (fun r => r.length == c.xs.length) = true) := Md.all_next hA.out hlt (by simpa using he)
            have heB : (((c.rows[k]).length : Int) != (c.xs.length : Int)) = false := by simp; omega
            generalize (c.rows[k]).length = y at *
            clear he
            go_wp2
            go_quiet (fail)
            go_wp2
            go_roundw
            case rel => exact ⟨k + 1, by go_num, by omega, hnx, below_drewN hB.out _⟩
            case measure => simp [intOf]; omega
          · have hres : Hid ((c.rows.all fun r => r.length == c.xs.length) = false) := Md.all_stop hlt (by simpa using he)
            have heB : (((c.rows[k]).length : Int) != (c.xs.length : Int)) = true := by simp; omega
            generalize (c.rows[k]).length = y at *
            clear he
            go_wp2
            go_quiet (fail)
            go_wp2
            go_ret
            exact ⟨ret_bool (by rw [hres.out]; simp), HB.out.trans ((below_drewN hB.out _).mono HB.out.size)⟩
        · have hkI : ¬ (k : Int) < (c.rows.length : Int) := by omega
          have hres : Hid ((c.rows.all fun r => r.length == c.xs.length) = true) := Md.all_done hA.out (by omega)
          go_wp2
          go_ret
          exact ⟨ret_bool (by rw [hres.out]), HB.out.trans (hB.out.mono HB.out.size)⟩
    · go_enter Tryz.func67, Tryz.ntmps67
      go_wp2_with (go_at_call 48; refine (many_any c.rows.length _).mono ?_; rintro e w' ⟨rfl, hww⟩; rw [hww])
      go_ret
      exact ⟨ret_bool (by simp), HB.out⟩
end Go.Proofs.YtjanpglnahagdaaGreatDoor

namespace Go.Proofs.YtjanpglnahagdaaGreatDoor
open Go.RowKit

set_option maxHeartbeats 400000 in
theorem isDigit_any (n : Int) (w : World) : Calls Tryz.prog 122 #[.int .u8 n] w fun e w' => e = .returned (.bool (Md.digI n)) ∧ w' = w := by
  go_enter Tryz.func122, Tryz.ntmps122
  go_wp2
  all_goals
    go_ret
    refine ⟨ret_bool ?_, rfl⟩
    unfold Md.digI
    rw [Bool.eq_iff_iff]
    simp <;> omega
set_option maxHeartbeats 400000 in
theorem isLetter_any (n : Int) (w : World) : Calls Tryz.prog 123 #[.int .u8 n] w fun e w' => e = .returned (.bool (Md.ltrI n)) ∧ w' = w := by
  go_enter Tryz.func123, Tryz.ntmps123
  go_wp2
  all_goals
    go_ret
    refine ⟨ret_bool ?_, rfl⟩
    unfold Md.ltrI
    rw [Bool.eq_iff_iff]
    simp <;> omega
set_option maxHeartbeats 400000 in
theorem letter_any (n : Int) (w : World) : Calls Tryz.prog 119 #[.int .u8 n] w fun e w' => e = .returned (.bool (Md.ltrI n)) ∧ w' = w := by
  go_enter Tryz.func119, Tryz.ntmps119
  go_wp2
  all_goals
    go_ret
    refine ⟨ret_bool ?_, rfl⟩
    unfold Md.ltrI
    rw [Bool.eq_iff_iff]
    simp <;> omega

set_option maxHeartbeats 1000000 in
theorem bounds_any (lo hi : Int) (w : World) : Calls Tryz.prog 64 #[.int .i64 lo, .int .i64 hi] w fun e w' => e = .returned (.bool (Md.boundsB lo hi)) ∧ w' = w := by
  cases h1 : Md.numB lo
  · have hres : Hid (Md.boundsB lo hi = false) := by show _ = _; simp [Md.boundsB, h1]
    go_enter Tryz.func64, Tryz.ntmps64
    go_wp2_with (go_at_call 120; refine (size_num _ _).mono ?_; rintro e w' ⟨rfl, rfl⟩)
    go_ret
    exact ⟨ret_bool hres.out.symm, rfl⟩
  cases h2 : Md.numB hi
  · have hres : Hid (Md.boundsB lo hi = false) := by show _ = _; simp [Md.boundsB, h2]
    go_enter Tryz.func64, Tryz.ntmps64
    go_wp2_with (go_at_call 120; refine (size_num _ _).mono ?_; rintro e w' ⟨rfl, rfl⟩)
    go_ret
    exact ⟨ret_bool hres.out.symm, rfl⟩
  have hres : Hid (Md.boundsB lo hi = decide (lo ≤ hi ∧ hi - lo < 64)) := by show _ = _; simp [Md.boundsB, h1, h2]
  have a1 : -1000000000 ≤ lo ∧ lo ≤ 1000000000 := by simpa [Md.numB] using h1
  have a2 : -1000000000 ≤ hi ∧ hi ≤ 1000000000 := by simpa [Md.numB] using h2
  obtain ⟨a3, a4⟩ := a1
  obtain ⟨a5, a6⟩ := a2
  go_enter Tryz.func64, Tryz.ntmps64
  go_wp2_with (go_at_call 120; refine (size_num _ _).mono ?_; rintro e w' ⟨rfl, rfl⟩)
  all_goals
    go_ret
    refine ⟨ret_bool ?_, rfl⟩
    rw [hres.out, Bool.eq_iff_iff]
    simp <;> omega

theorem take_snoc (s : ByteArray) (k : Nat) (h : k < s.size) : s.data.toList.take (k + 1) = s.data.toList.take k ++ [s[k]] := by
  rw [List.take_succ_eq_append_getElem (by simpa using h)]; rfl
theorem nm_next {s : ByteArray} {k : Nat} (h : k < s.size) (ha : (s.data.toList.take k).all Md.wordB = true) (hp : Md.wordB s[k] = true) : (s.data.toList.take (k + 1)).all Md.wordB = true := by
  rw [take_snoc s k h, List.all_append, ha]; simp [hp]
theorem nm_stop {s : ByteArray} {k : Nat} (h : k < s.size) (hp : Md.wordB s[k] = false) : Md.nameB s.data.toList = false := by
  have : s.data.toList.all Md.wordB = false := by
    rw [List.all_eq_false]
    exact ⟨s[k], by rw [ByteArray.getElem_eq_getElem_data]; exact Array.getElem_mem_toList _, by simp [hp]⟩
  simp [Md.nameB, this]
theorem nm_head {s : ByteArray} (h : 0 < s.size) : Md.byteI (s.data.toList.headD 0) = ((s[0]).toNat : Int) := by
  have h' : 0 < s.data.toList.length := by simpa using h
  unfold Md.byteI
  cases hl : s.data.toList with
  | nil => rw [hl] at h'; simp at h'
  | cons a l =>
    have : s[0] = a := by
      have : s.data.toList[0]'h' = a := by simp [hl]
      rw [← this]; rfl
    rw [this]; rfl
theorem nm_done {s : ByteArray} {k : Nat} (h1 : 1 ≤ s.size) (h16 : s.size ≤ 16) (hd : Md.digI ((s[0]).toNat : Int) = false) (ha : (s.data.toList.take k).all Md.wordB = true) (hk : s.size ≤ k) : Md.nameB s.data.toList = true := by
  rw [List.take_of_length_le (by simpa using hk)] at ha
  have hl : s.data.toList.length = s.size := by simp
  unfold Md.nameB
  rw [ha, nm_head h1, hd, decide_eq_true (by omega)]
  rfl
theorem nm_dig {s : ByteArray} (h1 : 1 ≤ s.size) (hd : Md.digI ((s[0]).toNat : Int) = true) : Md.nameB s.data.toList = false := by
  unfold Md.nameB
  rw [nm_head h1, hd]
  simp
theorem nm_len {s : ByteArray} (h : s.size < 1 ∨ 16 < s.size) : Md.nameB s.data.toList = false := by
  have hl : s.data.toList.length = s.size := by simp
  unfold Md.nameB
  rw [decide_eq_false (by omega)]; rfl

set_option maxRecDepth 10000 in
set_option maxHeartbeats 1000000 in
theorem isName_any (s : ByteArray) (w : World) (hs : s.size ≤ maxLen) : Calls Tryz.prog 72 #[.string s] w fun e w' => e = .returned (.bool (Md.nameB s.data.toList)) ∧ w' = w := by
  unfold maxLen at hs
  by_cases h0 : s.size < 1
  · have hres : Hid (Md.nameB s.data.toList = false) := nm_len (.inl h0)
    obtain rfl : s = ⟨#[]⟩ := by
      obtain ⟨a⟩ := s
      congr 1
      exact Array.eq_empty_of_size_eq_zero (show a.size = 0 from by have : (ByteArray.mk a).size = a.size := rfl; omega)
    go_enter Tryz.func72, Tryz.ntmps72
    go_wp2
    go_ret
    exact ⟨ret_bool hres.out.symm, rfl⟩
  have hne : s.toList.isEmpty = false := by
    rw [ByteArray.toList_eq]
    have : 0 < s.data.toList.length := by have : s.data.toList.length = s.size := by simp
                                          omega
    cases h : s.data.toList with
    | nil => rw [h] at this; simp at this
    | cons a l => rfl
  by_cases h1 : 16 < s.size
  · have hres : Hid (Md.nameB s.data.toList = false) := nm_len (.inr h1)
    have hI : (16 : Int) < (s.size : Int) := by omega
    go_enter Tryz.func72, Tryz.ntmps72
    go_wp2
    go_ret
    exact ⟨ret_bool hres.out.symm, rfl⟩
  have hI : ¬ (16 : Int) < (s.size : Int) := by omega
  have hI0 : (0 : Int) < (s.size : Int) := by omega
  have h00 : 0 < s.size := by omega
  cases hd : Md.digI ((s[0]).toNat : Int)
  rotate_left
  · have hres : Hid (Md.nameB s.data.toList = false) := nm_dig (by omega) hd
    go_enter Tryz.func72, Tryz.ntmps72
    go_wp2_with (go_at_call 122; refine (isDigit_any _ _).mono ?_; rintro e w' ⟨rfl, hww⟩; rw [hww])
    go_ret
    exact ⟨ret_bool hres.out.symm, rfl⟩
  have HD : Hid (Md.digI ((s[0]).toNat : Int) = false) := hd
  go_enter Tryz.func72, Tryz.ntmps72
  go_wp2_with (go_at_call 122; refine (isDigit_any _ _).mono ?_; rintro e w' ⟨rfl, hww⟩; rw [hww])
  clear hd
  go_loop [18] (fun iv => ∃ k : Nat, iv = .int .i64 (k : Int) ∧ k ≤ s.size ∧ Hid ((s.data.toList.take k).all Md.wordB = true)) (fun iv => s.size - (intOf iv).toNat)
  case atStart => exact ⟨0, rfl, Nat.zero_le _, (show _ = _ by simp)⟩
  case round =>
    obtain ⟨k, rfl, hk, hA⟩ := hrel
    by_cases hlt : k < s.size
    · have hkI : (k : Int) < (s.size : Int) := by omega
      cases hL : Md.ltrI ((s[k]).toNat : Int)
      · cases hG : Md.digI ((s[k]).toNat : Int)
        · have hres : Hid (Md.nameB s.data.toList = false) := nm_stop hlt (by simp [Md.wordB, Md.byteI, hL, hG])
          go_wp2_with (first | (go_at_call 122; refine (isDigit_any _ _).mono ?_; rintro e w' ⟨rfl, hww⟩; rw [hww]) | (go_at_call 123; refine (isLetter_any _ _).mono ?_; rintro e w' ⟨rfl, hww⟩; rw [hww]))
          go_ret
          exact ⟨ret_bool hres.out.symm, rfl⟩
        · have hres : Hid ((s.data.toList.take (k + 1)).all Md.wordB = true) := nm_next hlt hA.out (by simp [Md.wordB, Md.byteI, hG])
          go_wp2_with (first | (go_at_call 122; refine (isDigit_any _ _).mono ?_; rintro e w' ⟨rfl, hww⟩; rw [hww]) | (go_at_call 123; refine (isLetter_any _ _).mono ?_; rintro e w' ⟨rfl, hww⟩; rw [hww]))
          go_round
          case rel => exact ⟨k + 1, by go_num, by omega, hres⟩
          case measure => simp [intOf]; omega
      · have hres : Hid ((s.data.toList.take (k + 1)).all Md.wordB = true) := nm_next hlt hA.out (by simp [Md.wordB, Md.byteI, hL])
        go_wp2_with (go_at_call 123; refine (isLetter_any _ _).mono ?_; rintro e w' ⟨rfl, hww⟩; rw [hww])
        go_round
        case rel => exact ⟨k + 1, by go_num, by omega, hres⟩
        case measure => simp [intOf]; omega
    · have hkI : ¬ (k : Int) < (s.size : Int) := by omega
      have hres : Hid (Md.nameB s.data.toList = true) := nm_done h00 (by omega) HD.out hA.out (by omega)
      go_wp2_with fail
      go_ret
      exact ⟨ret_bool hres.out.symm, rfl⟩
end Go.Proofs.YtjanpglnahagdaaGreatDoor
