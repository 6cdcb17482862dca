/-
  Put together: DcRefB, MdConMath.
-/
import Derived.Test.YtdfbmfikhccajaaGreatDoorJ09
namespace Go.Proofs.YtdfbmfikhccajaaGreatDoor.Doc
open Go.RowKit

set_option maxRecDepth 10000 in
set_option maxHeartbeats 2000000 in
theorem places_any (c : Md.Cn) (vt vx vb vr : Value) (n : Int) (w : World) (h : CnAt w c vt vx vb vr) : Calls Tryz.prog 80 #[cnVal c vt vx vb vr, .int .i64 n] w fun e w' => e = .returned (.bool (Md.plB n c.x && Md.plB n c.y && c.xs.all (Md.plB n))) ∧ Below w.heap.size w w' := by
  obtain ⟨ta, tc, rfl, _⟩ := id h.t
  obtain ⟨xa, xc, rfl, hxm, hxo⟩ := id h.x
  obtain ⟨ba, bc, rfl, hbm, hbo⟩ := id h.b
  obtain ⟨ra, rc, rfl, hrm, hro⟩ := id h.r
  unfold maxLen at hxm hbm hrm
  obtain ⟨W, hW⟩ : ∃ W, w.alloc (.cells #[.int .i64 c.kind, .int .i64 c.op, .slice ta c.terms.length tc, .int .i64 c.k, .int .i64 c.v, .int .i64 c.x, .int .i64 c.y, .slice xa c.xs.length xc, .slice ba c.table.length bc, .slice ra c.rows.length rc] 61) = W := ⟨_, rfl⟩
  have hbW : Below w.heap.size w W := by rw [← hW]; exact (Below.refl _ _).alloc (Nat.le_refl _) _
  have HB : Hid (Below w.heap.size w W) := hbW
  have HC : Hid (CnAt W c (.slice ta c.terms.length tc) (.slice xa c.xs.length xc) (.slice ba c.table.length bc) (.slice ra c.rows.length rc)) := h.below hbW
  have HXO : Hid (0 < c.xs.length → ∃ b off, xa = some ⟨b, off, none⟩ ∧ b < w.heap.size ∧ ∀ j (h : j < c.xs.length), w.cell? ⟨b, off + j, none⟩ = some (.int .i64 c.xs[j])) := hxo
  have HBO : Hid (0 < c.table.length → ∃ b off, ba = some ⟨b, off, none⟩ ∧ b < w.heap.size ∧ ∀ j (h : j < c.table.length), w.cell? ⟨b, off + j, none⟩ = some (.int .i64 c.table[j])) := hbo
  have HRO : Hid (0 < c.rows.length → ∃ b off, ra = some ⟨b, off, none⟩ ∧ b < w.heap.size ∧ ∀ j (h : j < c.rows.length), ∃ u, w.cell? ⟨b, off + j, none⟩ = some u ∧ IntsAt w u c.rows[j]) := hro
  have c0 : W.cell? ⟨w.heap.size, 0, none⟩ = some (.int .i64 c.kind) := by rw [← hW]; simp
  have c1 : W.cell? ⟨w.heap.size, 1, none⟩ = some (.int .i64 c.op) := by rw [← hW]; simp
  have c2 : W.cell? ⟨w.heap.size, 2, none⟩ = some (.slice ta c.terms.length tc) := by rw [← hW]; simp
  have c3 : W.cell? ⟨w.heap.size, 3, none⟩ = some (.int .i64 c.k) := by rw [← hW]; simp
  have c4 : W.cell? ⟨w.heap.size, 4, none⟩ = some (.int .i64 c.v) := by rw [← hW]; simp
  have c5 : W.cell? ⟨w.heap.size, 5, none⟩ = some (.int .i64 c.x) := by rw [← hW]; simp
  have c6 : W.cell? ⟨w.heap.size, 6, none⟩ = some (.int .i64 c.y) := by rw [← hW]; simp
  have c7 : W.cell? ⟨w.heap.size, 7, none⟩ = some (.slice xa c.xs.length xc) := by rw [← hW]; simp
  have c8 : W.cell? ⟨w.heap.size, 8, none⟩ = some (.slice ba c.table.length bc) := by rw [← hW]; simp
  have c9 : W.cell? ⟨w.heap.size, 9, none⟩ = some (.slice ra c.rows.length rc) := by rw [← hW]; simp
  have hsz : W.heap.size = w.heap.size + 1 := by rw [← hW]; simp
  have hsN : w.heap.size < W.heap.size := by omega
  have HCC : Hid (∀ w', Below W.heap.size W w' → w'.cell? ⟨w.heap.size, 0, none⟩ = some (.int .i64 c.kind) ∧ w'.cell? ⟨w.heap.size, 1, none⟩ = some (.int .i64 c.op) ∧ w'.cell? ⟨w.heap.size, 2, none⟩ = some (.slice ta c.terms.length tc) ∧ w'.cell? ⟨w.heap.size, 3, none⟩ = some (.int .i64 c.k) ∧ w'.cell? ⟨w.heap.size, 4, none⟩ = some (.int .i64 c.v) ∧ w'.cell? ⟨w.heap.size, 5, none⟩ = some (.int .i64 c.x) ∧ w'.cell? ⟨w.heap.size, 6, none⟩ = some (.int .i64 c.y) ∧ w'.cell? ⟨w.heap.size, 7, none⟩ = some (.slice xa c.xs.length xc) ∧ w'.cell? ⟨w.heap.size, 8, none⟩ = some (.slice ba c.table.length bc) ∧ w'.cell? ⟨w.heap.size, 9, none⟩ = some (.slice ra c.rows.length rc)) := fun w' hb => ⟨(hb.cell (p := ⟨w.heap.size, 0, none⟩) hsN).trans c0, (hb.cell (p := ⟨w.heap.size, 1, none⟩) hsN).trans c1, (hb.cell (p := ⟨w.heap.size, 2, none⟩) hsN).trans c2, (hb.cell (p := ⟨w.heap.size, 3, none⟩) hsN).trans c3, (hb.cell (p := ⟨w.heap.size, 4, none⟩) hsN).trans c4, (hb.cell (p := ⟨w.heap.size, 5, none⟩) hsN).trans c5, (hb.cell (p := ⟨w.heap.size, 6, none⟩) hsN).trans c6, (hb.cell (p := ⟨w.heap.size, 7, none⟩) hsN).trans c7, (hb.cell (p := ⟨w.heap.size, 8, none⟩) hsN).trans c8, (hb.cell (p := ⟨w.heap.size, 9, none⟩) hsN).trans c9⟩
  unfold cnVal
  clear h hxo hbo hro hbW hsz
  obtain ⟨q, hq⟩ : ∃ q, (Md.plB n c.x && Md.plB n c.y) = q := ⟨_, rfl⟩
  have HQ : Hid ((Md.plB n c.x && Md.plB n c.y) = q) := hq
  rw [hq]
  have tail : ∀ (qv : Bool), qv = q → True := fun _ _ => trivial
  clear hq tail
  cases p1 : Md.plB n c.x
  all_goals cases p2 : Md.plB n c.y
  all_goals
    go_enter Tryz.func80, Tryz.ntmps80
    go_wp2_with (go_at_call 97; refine (place_any _ _ _).mono ?_; rintro e w' ⟨rfl, rfl⟩)
    have hq2 : Hid (_ = q) := HQ.out
    rw [p1, p2] at hq2
    go_loop [5, 6] (fun bv iv => ∃ k : Nat, iv = .int .i64 (k : Int) ∧ k ≤ c.xs.length ∧ bv = .bool (q && (c.xs.take k).all (Md.plB n))) (fun _ iv => c.xs.length - (intOf iv).toNat)
    case atStart => exact ⟨0, rfl, Nat.zero_le _, by rw [← hq2.out]; simp⟩
    case round =>
      obtain ⟨k, rfl, hk, rfl⟩ := hrel
      by_cases hlt : k < c.xs.length
      · obtain ⟨b, off, rfl, hb, hc⟩ := HXO.out (by omega)
        have hcell := (HB.out.cell (p := ⟨b, off + k, none⟩) hb).trans (hc k hlt)
        have hkI : (k : Int) < (c.xs.length : Int) := by omega
        have hnx : Hid ((q && (c.xs.take (k + 1)).all (Md.plB n)) = ((q && (c.xs.take k).all (Md.plB n)) && Md.plB n c.xs[k])) := by
          show _ = _
          rw [List.take_succ_eq_append_getElem hlt, List.all_append]; simp [Bool.and_assoc]
        clear hc
        generalize c.xs[k] = x at *
        cases hb1 : (q && (c.xs.take k).all (Md.plB n))
        · rw [hb1] at hnx
          go_wp2
          go_round
          case rel => exact ⟨k + 1, by go_num, by omega, by rw [hnx.out]; simp⟩
          case measure => simp [intOf]; omega
        · rw [hb1] at hnx
          go_wp2_with (go_at_call 97; refine (place_any _ _ _).mono ?_; rintro e w' ⟨rfl, rfl⟩)
          go_round
          case rel => exact ⟨k + 1, by go_num, by omega, by rw [hnx.out]; simp⟩
          case measure => simp [intOf]; omega
      · have hkI : ¬ (k : Int) < (c.xs.length : Int) := by omega
        rw [List.take_of_length_le (by omega)]
        go_wp2
        go_ret
        exact ⟨rfl, HB.out⟩

set_option maxRecDepth 10000 in
set_option maxHeartbeats 2000000 in
theorem rowsOk_any (c : Md.Cn) (vt vx vb vr : Value) (w : World) (h : CnAt w c vt vx vb vr) : Calls Tryz.prog 79 #[cnVal c vt vx vb vr] w fun e w' => e = .returned (.bool (!(decide (8 < c.xs.length) || Md.fewB c.rows.length 64 || !(c.rows.all fun r => r.length == c.xs.length)))) ∧ Below w.heap.size w w' := by
  obtain ⟨ta, tc, rfl, _⟩ := id h.t
  obtain ⟨xa, xc, rfl, hxm, hxo⟩ := id h.x
  obtain ⟨ba, bc, rfl, hbm, hbo⟩ := id h.b
  obtain ⟨ra, rc, rfl, hrm, hro⟩ := id h.r
  unfold maxLen at hxm hbm hrm
  obtain ⟨W, hW⟩ : ∃ W, w.alloc (.cells #[.int .i64 c.kind, .int .i64 c.op, .slice ta c.terms.length tc, .int .i64 c.k, .int .i64 c.v, .int .i64 c.x, .int .i64 c.y, .slice xa c.xs.length xc, .slice ba c.table.length bc, .slice ra c.rows.length rc] 61) = W := ⟨_, rfl⟩
  have hbW : Below w.heap.size w W := by rw [← hW]; exact (Below.refl _ _).alloc (Nat.le_refl _) _
  have HB : Hid (Below w.heap.size w W) := hbW
  have HC : Hid (CnAt W c (.slice ta c.terms.length tc) (.slice xa c.xs.length xc) (.slice ba c.table.length bc) (.slice ra c.rows.length rc)) := h.below hbW
  have HXO : Hid (0 < c.xs.length → ∃ b off, xa = some ⟨b, off, none⟩ ∧ b < w.heap.size ∧ ∀ j (h : j < c.xs.length), w.cell? ⟨b, off + j, none⟩ = some (.int .i64 c.xs[j])) := hxo
  have HBO : Hid (0 < c.table.length → ∃ b off, ba = some ⟨b, off, none⟩ ∧ b < w.heap.size ∧ ∀ j (h : j < c.table.length), w.cell? ⟨b, off + j, none⟩ = some (.int .i64 c.table[j])) := hbo
  have HRO : Hid (0 < c.rows.length → ∃ b off, ra = some ⟨b, off, none⟩ ∧ b < w.heap.size ∧ ∀ j (h : j < c.rows.length), ∃ u, w.cell? ⟨b, off + j, none⟩ = some u ∧ IntsAt w u c.rows[j]) := hro
  have c0 : W.cell? ⟨w.heap.size, 0, none⟩ = some (.int .i64 c.kind) := by rw [← hW]; simp
  have c1 : W.cell? ⟨w.heap.size, 1, none⟩ = some (.int .i64 c.op) := by rw [← hW]; simp
  have c2 : W.cell? ⟨w.heap.size, 2, none⟩ = some (.slice ta c.terms.length tc) := by rw [← hW]; simp
  have c3 : W.cell? ⟨w.heap.size, 3, none⟩ = some (.int .i64 c.k) := by rw [← hW]; simp
  have c4 : W.cell? ⟨w.heap.size, 4, none⟩ = some (.int .i64 c.v) := by rw [← hW]; simp
  have c5 : W.cell? ⟨w.heap.size, 5, none⟩ = some (.int .i64 c.x) := by rw [← hW]; simp
  have c6 : W.cell? ⟨w.heap.size, 6, none⟩ = some (.int .i64 c.y) := by rw [← hW]; simp
  have c7 : W.cell? ⟨w.heap.size, 7, none⟩ = some (.slice xa c.xs.length xc) := by rw [← hW]; simp
  have c8 : W.cell? ⟨w.heap.size, 8, none⟩ = some (.slice ba c.table.length bc) := by rw [← hW]; simp
  have c9 : W.cell? ⟨w.heap.size, 9, none⟩ = some (.slice ra c.rows.length rc) := by rw [← hW]; simp
  have hsz : W.heap.size = w.heap.size + 1 := by rw [← hW]; simp
  have hsN : w.heap.size < W.heap.size := by omega
  have HCC : Hid (∀ w', Below W.heap.size W w' → w'.cell? ⟨w.heap.size, 0, none⟩ = some (.int .i64 c.kind) ∧ w'.cell? ⟨w.heap.size, 1, none⟩ = some (.int .i64 c.op) ∧ w'.cell? ⟨w.heap.size, 2, none⟩ = some (.slice ta c.terms.length tc) ∧ w'.cell? ⟨w.heap.size, 3, none⟩ = some (.int .i64 c.k) ∧ w'.cell? ⟨w.heap.size, 4, none⟩ = some (.int .i64 c.v) ∧ w'.cell? ⟨w.heap.size, 5, none⟩ = some (.int .i64 c.x) ∧ w'.cell? ⟨w.heap.size, 6, none⟩ = some (.int .i64 c.y) ∧ w'.cell? ⟨w.heap.size, 7, none⟩ = some (.slice xa c.xs.length xc) ∧ w'.cell? ⟨w.heap.size, 8, none⟩ = some (.slice ba c.table.length bc) ∧ w'.cell? ⟨w.heap.size, 9, none⟩ = some (.slice ra c.rows.length rc)) := fun w' hb => ⟨(hb.cell (p := ⟨w.heap.size, 0, none⟩) hsN).trans c0, (hb.cell (p := ⟨w.heap.size, 1, none⟩) hsN).trans c1, (hb.cell (p := ⟨w.heap.size, 2, none⟩) hsN).trans c2, (hb.cell (p := ⟨w.heap.size, 3, none⟩) hsN).trans c3, (hb.cell (p := ⟨w.heap.size, 4, none⟩) hsN).trans c4, (hb.cell (p := ⟨w.heap.size, 5, none⟩) hsN).trans c5, (hb.cell (p := ⟨w.heap.size, 6, none⟩) hsN).trans c6, (hb.cell (p := ⟨w.heap.size, 7, none⟩) hsN).trans c7, (hb.cell (p := ⟨w.heap.size, 8, none⟩) hsN).trans c8, (hb.cell (p := ⟨w.heap.size, 9, none⟩) hsN).trans c9⟩
  unfold cnVal
  clear h hxo hbo hro hbW hsz
  by_cases h8 : 8 < c.xs.length
  · have h8I : (8 : Int) < (c.xs.length : Int) := by omega
    go_enter Tryz.func79, Tryz.ntmps79
    go_wp2
    go_ret
    exact ⟨ret_bool (by simp [h8]), HB.out⟩
  · have h8I : ¬ (8 : Int) < (c.xs.length : Int) := by omega
    cases hfw : Md.fewB c.rows.length 64
    · go_enter Tryz.func79, Tryz.ntmps79
      go_wp2_with (go_at_call 57; refine (many_any c.rows.length _).mono ?_; rintro e w' ⟨rfl, hww⟩; rw [hww])
      go_loopw [3] (fun iv wr => ∃ k : Nat, iv = .int .i64 (k : Int) ∧ k ≤ c.rows.length ∧ Hid ((c.rows.take k).all (fun r => r.length == c.xs.length) = true) ∧ Hid (Below W.heap.size W wr)) (fun iv _ => c.rows.length - (intOf iv).toNat)
      case atStart => exact ⟨0, rfl, Nat.zero_le _, (show _ = _ by simp), Below.refl _ _⟩
      case round =>
        obtain ⟨k, rfl, hk, hA, hB⟩ := hrel
        obtain ⟨_, _, _, _, _, _, _, a7, _, a9⟩ := HCC.out _ hB.out
        by_cases hlt : k < c.rows.length
        · obtain ⟨b, off, rfl, hb, hc⟩ := HRO.out (by omega)
          obtain ⟨u, hcell, hu⟩ := hc k hlt
          have hcw := ((HB.out.trans (hB.out.mono HB.out.size)).cell (p := ⟨b, off + k, none⟩) hb).trans hcell
          obtain ⟨ua, uc, rfl, _⟩ := hu.form
          have hkI : (k : Int) < (c.rows.length : Int) := by omega
          clear hc hu hcell
          by_cases he : (c.rows[k]).length = c.xs.length
          · have hnx : Hid ((c.rows.take (k + 1)).all (fun r => r.length == c.xs.length) = true) := Md.all_next hA.out hlt (by simpa using he)
            have heB : (((c.rows[k]).length : Int) != (c.xs.length : Int)) = false := by simp; omega
            generalize (c.rows[k]).length = y at *
            clear he
            go_wp2
            go_quiet (fail)
            go_wp2
            go_roundw
            case rel => exact ⟨k + 1, by go_num, by omega, hnx, below_drewN hB.out _⟩
            case measure => simp [intOf]; omega
          · have hres : Hid ((c.rows.all fun r => r.length == c.xs.length) = false) := Md.all_stop hlt (by simpa using he)
            have heB : (((c.rows[k]).length : Int) != (c.xs.length : Int)) = true := by simp; omega
            generalize (c.rows[k]).length = y at *
            clear he
            go_wp2
            go_quiet (fail)
            go_wp2
            go_ret
            exact ⟨ret_bool (by rw [hres.out]; simp), HB.out.trans ((below_drewN hB.out _).mono HB.out.size)⟩
        · have hkI : ¬ (k : Int) < (c.rows.length : Int) := by omega
          have hres : Hid ((c.rows.all fun r => r.length == c.xs.length) = true) := Md.all_done hA.out (by omega)
          go_wp2
          go_ret
          exact ⟨ret_bool (by rw [hres.out]), HB.out.trans (hB.out.mono HB.out.size)⟩
    · go_enter Tryz.func79, Tryz.ntmps79
      go_wp2_with (go_at_call 57; refine (many_any c.rows.length _).mono ?_; rintro e w' ⟨rfl, hww⟩; rw [hww])
      go_ret
      exact ⟨ret_bool (by simp), HB.out⟩
end Go.Proofs.YtdfbmfikhccajaaGreatDoor.Doc

namespace Go.Proofs.YtdfbmfikhccajaaGreatDoor
open Go.RowKit

theorem fault43' {c : Md.Cn} {n : Int} (h : Md.fOp c.kind = true) (h2 : c.op < 1 ∨ 3 < c.op) : Md.fault c n = 43 := by
  have : Md.kindBad c.kind c.op = true := by simp [Md.kindBad, h, h2]
  simp [Md.fault, this]
theorem kind_ok' {c : Md.Cn} (hk : 1 ≤ c.kind ∧ c.kind ≤ 9) (h : ¬ (Md.fOp c.kind = true ∧ (c.op < 1 ∨ 3 < c.op))) : Md.kindBad c.kind c.op = false := by
  rw [← Bool.not_eq_true]
  simp only [Md.kindBad, Bool.or_eq_true, Bool.and_eq_true, decide_eq_true_eq]
  rintro (h1 | h1)
  · omega
  · exact h h1
theorem fault48' {c : Md.Cn} {n : Int} (h1 : Md.kindBad c.kind c.op = false) (h2 : (Md.plainBad c || Md.listBad c) = true) : Md.fault c n = 48 := by unfold Md.fault; rw [h1, h2]; rfl
theorem fault47' {c : Md.Cn} {n : Int} (h1 : Md.kindBad c.kind c.op = false) (h2 : (Md.plainBad c || Md.listBad c) = false) (h3 : Md.manyBad c = true) : Md.fault c n = 47 := by unfold Md.fault; rw [h1, h2, h3]; rfl
theorem fault44' {c : Md.Cn} {n : Int} (h1 : Md.kindBad c.kind c.op = false) (h2 : (Md.plainBad c || Md.listBad c) = false) (h3 : Md.manyBad c = false) (h4 : Md.placesB c n = false) : Md.fault c n = 44 := by unfold Md.fault; rw [h1, h2, h3, h4]; rfl
theorem fault45' {c : Md.Cn} {n : Int} (h1 : Md.kindBad c.kind c.op = false) (h2 : (Md.plainBad c || Md.listBad c) = false) (h3 : Md.manyBad c = false) (h4 : Md.placesB c n = true) (h5 : Md.coefsB c.terms = false) : Md.fault c n = 45 := by unfold Md.fault; rw [h1, h2, h3, h4, h5]; rfl
theorem fault46' {c : Md.Cn} {n : Int} (h1 : Md.kindBad c.kind c.op = false) (h2 : (Md.plainBad c || Md.listBad c) = false) (h3 : Md.manyBad c = false) (h4 : Md.placesB c n = true) (h5 : Md.coefsB c.terms = true) (h6 : Md.numsB c = false) : Md.fault c n = 46 := by unfold Md.fault; rw [h1, h2, h3, h4, h5, h6]; rfl
theorem fault0' {c : Md.Cn} {n : Int} (h1 : Md.kindBad c.kind c.op = false) (h2 : (Md.plainBad c || Md.listBad c) = false) (h3 : Md.manyBad c = false) (h4 : Md.placesB c n = true) (h5 : Md.coefsB c.terms = true) (h6 : Md.numsB c = true) : Md.fault c n = 0 := by unfold Md.fault; rw [h1, h2, h3, h4, h5, h6]; rfl
theorem rows_nil {c : Md.Cn} {k : Int} (hk : c.kind = k) (h8 : Md.fRows k = false) (h : (Md.plainBad c || Md.listBad c) = false) : c.rows.all (fun r => r.length == c.xs.length) = true := by
  rw [Bool.or_eq_false_iff] at h
  have h2 := h.2
  unfold Md.listBad at h2
  rw [hk, h8] at h2
  simp only [Bool.or_eq_false_iff] at h2
  have h3 := h2.2
  simp at h3
  rw [h3]; rfl
theorem many8_eq {c : Md.Cn} (hk : c.kind = 8) : Md.manyBad c = (Md.fewB c.xs.length 8 || Md.fewB c.rows.length 64 || !(c.rows.all fun r => r.length == c.xs.length)) := by
  unfold Md.manyBad; rw [hk]
  simp only [Md.fTerms, Md.fXs, Md.fTable, Md.fRows, Md.mostXs]
  simp
theorem many8 {c : Md.Cn} (hk : c.kind = 8) (h : Md.fewB c.xs.length 64 = true ∨ (decide (8 < c.xs.length) || Md.fewB c.rows.length 64 || !(c.rows.all fun r => r.length == c.xs.length)) = true) : Md.manyBad c = true := by
  rw [many8_eq hk]
  have h5 : Md.fewB c.xs.length 64 = true ∨ 8 < c.xs.length → Md.fewB c.xs.length 8 = true := fun h => by
    unfold Md.fewB at *
    simp only [decide_eq_true_eq] at *
    omega
  rcases h with h | h
  · rw [h5 (.inl h)]; rfl
  · rw [Bool.or_eq_true, Bool.or_eq_true, decide_eq_true_eq] at h
    rcases h with (h | h) | h
    · rw [h5 (.inr h)]; rfl
    · rw [h]; simp
    · rw [h]; simp
theorem many8f {c : Md.Cn} (hk : c.kind = 8) (h1 : Md.fewB c.xs.length 64 = false) (h : (decide (8 < c.xs.length) || Md.fewB c.rows.length 64 || !(c.rows.all fun r => r.length == c.xs.length)) = false) : Md.manyBad c = false := by
  rw [many8_eq hk]
  rw [Bool.or_eq_false_iff, Bool.or_eq_false_iff] at h
  obtain ⟨⟨h2, h3⟩, h4⟩ := h
  have h5 : Md.fewB c.xs.length 8 = false := by
    unfold Md.fewB at *
    simp only [decide_eq_false_iff_not] at *
    omega
  rw [h3, h4, h5]; rfl
theorem pl1 {c : Md.Cn} {n : Int} (h : (Md.plB n c.x && Md.plB n c.y && c.xs.all (Md.plB n)) = false) : Md.placesB c n = false := by
  unfold Md.placesB
  cases hx : Md.plB n c.x <;> cases hy : Md.plB n c.y <;> cases hxs : c.xs.all (Md.plB n) <;> simp_all
theorem pl2 {c : Md.Cn} {n : Int} (h : (c.terms.all fun t => Md.plB n t.2) = false) : Md.placesB c n = false := by
  unfold Md.placesB
  rw [h]; simp
theorem pl3 {c : Md.Cn} {n : Int} (h : (Md.plB n c.x && Md.plB n c.y && c.xs.all (Md.plB n)) = true) (h2 : (c.terms.all fun t => Md.plB n t.2) = true) : Md.placesB c n = true := by
  unfold Md.placesB
  rw [Bool.and_eq_true, Bool.and_eq_true] at h
  rw [h.1.1, h.1.2, h.2, h2]; rfl
theorem termsE_is (l : List (Int × Int)) (n : Int) : (termsE l n = 44 ∧ (l.all fun t => Md.plB n t.2) = false) ∨ (termsE l n = 45 ∧ (l.all fun t => Md.plB n t.2) = true ∧ Md.coefsB l = false) ∨ (termsE l n = 0 ∧ (l.all fun t => Md.plB n t.2) = true ∧ Md.coefsB l = true) := by
  unfold termsE
  cases (l.all fun t => Md.plB n t.2)
  · exact .inl ⟨rfl, rfl⟩
  · cases Md.coefsB l
    · exact .inr (.inl ⟨rfl, rfl, rfl⟩)
    · exact .inr (.inr ⟨rfl, rfl, rfl⟩)
theorem nums_row {c : Md.Cn} (h : c.rows.all (fun r => r.all Md.numB) = false) : Md.numsB c = false := by unfold Md.numsB; rw [h]; simp
theorem nums_tab {c : Md.Cn} (h : c.table.all Md.numB = false) : Md.numsB c = false := by unfold Md.numsB; rw [h]; simp
end Go.Proofs.YtdfbmfikhccajaaGreatDoor
