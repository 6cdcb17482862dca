/-
  Put together: MdRefHC, MdRefHB, MdRefHA.
-/
import Derived.Test.YtmhfabnpfkkbcaaGreatMdRefH
namespace Go.Proofs.YtmhfabnpfkkbcaaGreat
open Go.RowKit

set_option maxRecDepth 10000 in
set_option maxHeartbeats 8000000 in
theorem refHolds_7 (c : Md.Cn) (vt vx vb vr vv : Value) (vs : List Int) (w : World) (h : CnAt w c vt vx vb vr) (hv : IntsAt w vv vs) (hf : Md.Fit c vs.length) (hn : vs.all Md.numB = true) (hcon : ∀ w', CnAt w' c vt vx vb vr → Calls Tryz.prog 35 #[cnVal c vt vx vb vr, .int .i64 (vs.length : Int)] w' fun e w'' => e = .returned (.int .i64 (Md.fault c vs.length)) ∧ Below w'.heap.size w' w'') (hf0 : Md.fault c vs.length = 0) (hk : c.kind = 7) : Calls Tryz.prog 24 #[cnVal c vt vx vb vr, vv] w fun e w' => e = .returned (.bool (Md.rfB c vs)) ∧ Below w.heap.size w w' := by
  have HF : Hid (Md.Fit c vs.length) := hf
  have HN : Hid (vs.all Md.numB = true) := hn
  obtain ⟨ta, tc, rfl, _⟩ := id h.t
  obtain ⟨xa, xc, rfl, _⟩ := id h.x
  obtain ⟨ba, bc, rfl, _⟩ := id h.b
  obtain ⟨ra, rc, rfl, _⟩ := id h.r
  have hnp : 0 < vs.length := by have := hf.x; omega
  obtain ⟨bv, ov, vc, rfl, hbv, hmv, hvc⟩ := hv.open hnp
  unfold maxLen at hmv
  obtain ⟨W, hW⟩ : ∃ W, w.alloc (.cells #[.int .i64 7, .int .i64 c.op, .slice ta c.terms.length tc, .int .i64 c.k, .int .i64 c.v, .int .i64 c.x, .int .i64 c.y, .slice xa c.xs.length xc, .slice ba c.table.length bc, .slice ra c.rows.length rc] 62) = W := ⟨_, rfl⟩
  have hbW : Below w.heap.size w W := by rw [← hW]; exact (Below.refl _ _).alloc (Nat.le_refl _) _
  have HB : Hid (Below w.heap.size w W) := hbW
  have HC : Hid (CnAt W c (.slice ta c.terms.length tc) (.slice xa c.xs.length xc) (.slice ba c.table.length bc) (.slice ra c.rows.length rc)) := h.below hbW
  have HV : Hid (IntsAt W (.slice (some ⟨bv, ov, none⟩) vs.length vc) vs) := hv.below hbW
  have HVC : Hid (∀ w', Below W.heap.size W w' → ∀ m : Nat, m < vs.length → w'.cell? ⟨bv, ov + m, none⟩ = some (.int .i64 (Md.val vs (m : Int)))) := fun w' hb m hm => ((hb.cell (p := ⟨bv, ov + m, none⟩) (Nat.lt_of_lt_of_le hbv hbW.size)).trans (hbW.cell (p := ⟨bv, ov + m, none⟩) hbv)).trans (hvc m hm)
  have c0 : W.cell? ⟨w.heap.size, 0, none⟩ = some (.int .i64 7) := by rw [← hW]; simp
  have c1 : W.cell? ⟨w.heap.size, 1, none⟩ = some (.int .i64 c.op) := by rw [← hW]; simp
  have c2 : W.cell? ⟨w.heap.size, 2, none⟩ = some (.slice ta c.terms.length tc) := by rw [← hW]; simp
  have c3 : W.cell? ⟨w.heap.size, 3, none⟩ = some (.int .i64 c.k) := by rw [← hW]; simp
  have c4 : W.cell? ⟨w.heap.size, 4, none⟩ = some (.int .i64 c.v) := by rw [← hW]; simp
  have c5 : W.cell? ⟨w.heap.size, 5, none⟩ = some (.int .i64 c.x) := by rw [← hW]; simp
  have c6 : W.cell? ⟨w.heap.size, 6, none⟩ = some (.int .i64 c.y) := by rw [← hW]; simp
  have c7 : W.cell? ⟨w.heap.size, 7, none⟩ = some (.slice xa c.xs.length xc) := by rw [← hW]; simp
  have c8 : W.cell? ⟨w.heap.size, 8, none⟩ = some (.slice ba c.table.length bc) := by rw [← hW]; simp
  have c9 : W.cell? ⟨w.heap.size, 9, none⟩ = some (.slice ra c.rows.length rc) := by rw [← hW]; simp
  have hsz : W.heap.size = w.heap.size + 1 := by rw [← hW]; simp
  have hsN : w.heap.size < W.heap.size := by omega
  have HCC : Hid (∀ w', Below W.heap.size W w' → w'.cell? ⟨w.heap.size, 0, none⟩ = some (.int .i64 7) ∧ w'.cell? ⟨w.heap.size, 1, none⟩ = some (.int .i64 c.op) ∧ w'.cell? ⟨w.heap.size, 2, none⟩ = some (.slice ta c.terms.length tc) ∧ w'.cell? ⟨w.heap.size, 3, none⟩ = some (.int .i64 c.k) ∧ w'.cell? ⟨w.heap.size, 4, none⟩ = some (.int .i64 c.v) ∧ w'.cell? ⟨w.heap.size, 5, none⟩ = some (.int .i64 c.x) ∧ w'.cell? ⟨w.heap.size, 6, none⟩ = some (.int .i64 c.y) ∧ w'.cell? ⟨w.heap.size, 7, none⟩ = some (.slice xa c.xs.length xc) ∧ w'.cell? ⟨w.heap.size, 8, none⟩ = some (.slice ba c.table.length bc) ∧ w'.cell? ⟨w.heap.size, 9, none⟩ = some (.slice ra c.rows.length rc)) := fun w' hb => ⟨(hb.cell (p := ⟨w.heap.size, 0, none⟩) hsN).trans c0, (hb.cell (p := ⟨w.heap.size, 1, none⟩) hsN).trans c1, (hb.cell (p := ⟨w.heap.size, 2, none⟩) hsN).trans c2, (hb.cell (p := ⟨w.heap.size, 3, none⟩) hsN).trans c3, (hb.cell (p := ⟨w.heap.size, 4, none⟩) hsN).trans c4, (hb.cell (p := ⟨w.heap.size, 5, none⟩) hsN).trans c5, (hb.cell (p := ⟨w.heap.size, 6, none⟩) hsN).trans c6, (hb.cell (p := ⟨w.heap.size, 7, none⟩) hsN).trans c7, (hb.cell (p := ⟨w.heap.size, 8, none⟩) hsN).trans c8, (hb.cell (p := ⟨w.heap.size, 9, none⟩) hsN).trans c9⟩
  have H35 : Hid (∀ w', CnAt w' c (.slice ta c.terms.length tc) (.slice xa c.xs.length xc) (.slice ba c.table.length bc) (.slice ra c.rows.length rc) → Calls Tryz.prog 35 #[cnVal c (.slice ta c.terms.length tc) (.slice xa c.xs.length xc) (.slice ba c.table.length bc) (.slice ra c.rows.length rc), .int .i64 (vs.length : Int)] w' fun e w'' => e = .returned (.int .i64 (Md.fault c vs.length)) ∧ Below w'.heap.size w' w'') := hcon
  rw [hf0] at H35
  unfold cnVal at H35
  rw [hk] at H35
  have hnt := HN.out
  clear hcon hf0
  unfold cnVal
  clear h hv hf hn hvc hbW hsz
  obtain ⟨mx, hmx, hlx⟩ := nat_of HF.out.x
  have hlxI : (mx : Int) < (vs.length : Int) := by omega
  have HMX : Hid (c.x = (mx : Int)) := hmx
  clear hmx
  have HVX : Hid (∀ w', Below W.heap.size W w' → w'.cell? ⟨bv, ov + mx, none⟩ = some (.int .i64 (Md.val vs (mx : Int)))) := fun w' hb => HVC.out w' hb mx hlx
  have hres0 : Hid (Md.rfB c vs = if Md.sum c.terms vs ≤ c.k then decide (Md.val vs (mx : Int) = 1) else decide (Md.val vs (mx : Int) = 0)) := by show _ = _; unfold Md.rfB; rw [HMX.out]
  generalize Md.val vs (mx : Int) = y at *
  by_cases hle : Md.sum c.terms vs ≤ c.k
  · have hres : Hid (Md.rfB c vs = decide (y = 1)) := by show _ = _; rw [hres0.out, if_pos hle]
    go_enter Tryz.func24, Tryz.ntmps24
    go_wp2_with (first | (go_at_call 35; refine calls_at (H35.out _ HC.out) (by with_reducible rfl) (by with_reducible rfl) ?_; rintro e w1 ⟨rfl, hb1⟩; obtain ⟨a0, a1, a2, a3, a4, a5, a6, a7, a8, a9⟩ := HCC.out _ hb1; have dx := HVX.out _ hb1; have a5c := a5; rw [HMX.out] at a5) | (go_at_call 53; refine (numbers_any _ vs _ (HV.out.below hb1)).mono ?_; rintro e w2 ⟨rfl, hw2⟩; rw [hw2]))
    have hS0 : Hid (Kg w1 w.heap.size 7 c ta tc xa xc ba bc ra rc (.slice (some ⟨bv, ov, none⟩) vs.length vc) vs w1) := ⟨a0, a1, a2, a3, a4, a5c, a6, a7, a8, a9, Nat.lt_of_lt_of_le hsN hb1.size, HC.out.below hb1, HV.out.below hb1, Below.refl _ _⟩
    go_region_held3 (fun w' => w'.cell? ⟨w.heap.size, 0, none⟩ = some (.int .i64 7) ∧ w'.cell? ⟨w.heap.size, 1, none⟩ = some (.int .i64 c.op) ∧ w'.cell? ⟨w.heap.size, 2, none⟩ = some (.slice ta c.terms.length tc) ∧ w'.cell? ⟨w.heap.size, 3, none⟩ = some (.int .i64 c.k) ∧ w'.cell? ⟨w.heap.size, 4, none⟩ = some (.int .i64 c.v) ∧ w'.cell? ⟨w.heap.size, 5, none⟩ = some (.int .i64 c.x) ∧ w'.cell? ⟨w.heap.size, 6, none⟩ = some (.int .i64 c.y) ∧ w'.cell? ⟨w.heap.size, 7, none⟩ = some (.slice xa c.xs.length xc) ∧ w'.cell? ⟨w.heap.size, 8, none⟩ = some (.slice ba c.table.length bc) ∧ w'.cell? ⟨w.heap.size, 9, none⟩ = some (.slice ra c.rows.length rc) ∧ w.heap.size < w'.heap.size ∧ CnAt w' c (.slice ta c.terms.length tc) (.slice xa c.xs.length xc) (.slice ba c.table.length bc) (.slice ra c.rows.length rc) ∧ IntsAt w' (.slice (some ⟨bv, ov, none⟩) vs.length vc) vs ∧ Below w1.heap.size w1 w')
      (first | exact hS0.out.next (Below.refl _ _).drew | exact Kg.next (by assumption) (by assumption) | assumption)
      (first | (go_at_call 54; refine (refSum_any _ _ c.terms vs _ (Kg.cn (by assumption)).t (Kg.vals (by assumption)) HN.out HF.out.tx HF.out.tc HF.out.tl).mono ?_; rintro e w' ⟨rfl, hb⟩))
    rename_i hHeld
    have hfin := (HB.out.trans (hb1.mono HB.out.size)).trans ((Kg.rest hHeld).mono (Nat.le_trans HB.out.size hb1.size))
    go_wp2
    go_ret
    exact ⟨ret_bool (by rw [hres.out]; rw [Bool.eq_iff_iff]; simp), hfin⟩
  · have hres : Hid (Md.rfB c vs = decide (y = 0)) := by show _ = _; rw [hres0.out, if_neg hle]
    go_enter Tryz.func24, Tryz.ntmps24
    go_wp2_with (first | (go_at_call 35; refine calls_at (H35.out _ HC.out) (by with_reducible rfl) (by with_reducible rfl) ?_; rintro e w1 ⟨rfl, hb1⟩; obtain ⟨a0, a1, a2, a3, a4, a5, a6, a7, a8, a9⟩ := HCC.out _ hb1; have dx := HVX.out _ hb1; have a5c := a5; rw [HMX.out] at a5) | (go_at_call 53; refine (numbers_any _ vs _ (HV.out.below hb1)).mono ?_; rintro e w2 ⟨rfl, hw2⟩; rw [hw2]))
    have hS0 : Hid (Kg w1 w.heap.size 7 c ta tc xa xc ba bc ra rc (.slice (some ⟨bv, ov, none⟩) vs.length vc) vs w1) := ⟨a0, a1, a2, a3, a4, a5c, a6, a7, a8, a9, Nat.lt_of_lt_of_le hsN hb1.size, HC.out.below hb1, HV.out.below hb1, Below.refl _ _⟩
    go_region_held3 (fun w' => w'.cell? ⟨w.heap.size, 0, none⟩ = some (.int .i64 7) ∧ w'.cell? ⟨w.heap.size, 1, none⟩ = some (.int .i64 c.op) ∧ w'.cell? ⟨w.heap.size, 2, none⟩ = some (.slice ta c.terms.length tc) ∧ w'.cell? ⟨w.heap.size, 3, none⟩ = some (.int .i64 c.k) ∧ w'.cell? ⟨w.heap.size, 4, none⟩ = some (.int .i64 c.v) ∧ w'.cell? ⟨w.heap.size, 5, none⟩ = some (.int .i64 c.x) ∧ w'.cell? ⟨w.heap.size, 6, none⟩ = some (.int .i64 c.y) ∧ w'.cell? ⟨w.heap.size, 7, none⟩ = some (.slice xa c.xs.length xc) ∧ w'.cell? ⟨w.heap.size, 8, none⟩ = some (.slice ba c.table.length bc) ∧ w'.cell? ⟨w.heap.size, 9, none⟩ = some (.slice ra c.rows.length rc) ∧ w.heap.size < w'.heap.size ∧ CnAt w' c (.slice ta c.terms.length tc) (.slice xa c.xs.length xc) (.slice ba c.table.length bc) (.slice ra c.rows.length rc) ∧ IntsAt w' (.slice (some ⟨bv, ov, none⟩) vs.length vc) vs ∧ Below w1.heap.size w1 w')
      (first | exact hS0.out.next (Below.refl _ _).drew | exact Kg.next (by assumption) (by assumption) | assumption)
      (first | (go_at_call 54; refine (refSum_any _ _ c.terms vs _ (Kg.cn (by assumption)).t (Kg.vals (by assumption)) HN.out HF.out.tx HF.out.tc HF.out.tl).mono ?_; rintro e w' ⟨rfl, hb⟩))
    rename_i hHeld
    have hfin := (HB.out.trans (hb1.mono HB.out.size)).trans ((Kg.rest hHeld).mono (Nat.le_trans HB.out.size hb1.size))
    go_wp2
    go_ret
    exact ⟨ret_bool (by rw [hres.out]; rw [Bool.eq_iff_iff]; simp), hfin⟩

set_option maxRecDepth 10000 in
set_option maxHeartbeats 8000000 in
theorem refHolds_8 (c : Md.Cn) (vt vx vb vr vv : Value) (vs : List Int) (w : World) (h : CnAt w c vt vx vb vr) (hv : IntsAt w vv vs) (hf : Md.Fit c vs.length) (hn : vs.all Md.numB = true) (hcon : ∀ w', CnAt w' c vt vx vb vr → Calls Tryz.prog 35 #[cnVal c vt vx vb vr, .int .i64 (vs.length : Int)] w' fun e w'' => e = .returned (.int .i64 (Md.fault c vs.length)) ∧ Below w'.heap.size w' w'') (hf0 : Md.fault c vs.length = 0) (hk : c.kind = 8) : Calls Tryz.prog 24 #[cnVal c vt vx vb vr, vv] w fun e w' => e = .returned (.bool (Md.tbB c vs)) ∧ Below w.heap.size w w' := by
  have HF : Hid (Md.Fit c vs.length) := hf
  have HN : Hid (vs.all Md.numB = true) := hn
  obtain ⟨ta, tc, rfl, _⟩ := id h.t
  obtain ⟨xa, xc, rfl, _⟩ := id h.x
  obtain ⟨ba, bc, rfl, _⟩ := id h.b
  obtain ⟨ra, rc, rfl, _⟩ := id h.r
  have hnp : 0 < vs.length := by have := hf.x; omega
  obtain ⟨bv, ov, vc, rfl, hbv, hmv, hvc⟩ := hv.open hnp
  unfold maxLen at hmv
  obtain ⟨W, hW⟩ : ∃ W, w.alloc (.cells #[.int .i64 8, .int .i64 c.op, .slice ta c.terms.length tc, .int .i64 c.k, .int .i64 c.v, .int .i64 c.x, .int .i64 c.y, .slice xa c.xs.length xc, .slice ba c.table.length bc, .slice ra c.rows.length rc] 62) = W := ⟨_, rfl⟩
  have hbW : Below w.heap.size w W := by rw [← hW]; exact (Below.refl _ _).alloc (Nat.le_refl _) _
  have HB : Hid (Below w.heap.size w W) := hbW
  have HC : Hid (CnAt W c (.slice ta c.terms.length tc) (.slice xa c.xs.length xc) (.slice ba c.table.length bc) (.slice ra c.rows.length rc)) := h.below hbW
  have HV : Hid (IntsAt W (.slice (some ⟨bv, ov, none⟩) vs.length vc) vs) := hv.below hbW
  have HVC : Hid (∀ w', Below W.heap.size W w' → ∀ m : Nat, m < vs.length → w'.cell? ⟨bv, ov + m, none⟩ = some (.int .i64 (Md.val vs (m : Int)))) := fun w' hb m hm => ((hb.cell (p := ⟨bv, ov + m, none⟩) (Nat.lt_of_lt_of_le hbv hbW.size)).trans (hbW.cell (p := ⟨bv, ov + m, none⟩) hbv)).trans (hvc m hm)
  have c0 : W.cell? ⟨w.heap.size, 0, none⟩ = some (.int .i64 8) := by rw [← hW]; simp
  have c1 : W.cell? ⟨w.heap.size, 1, none⟩ = some (.int .i64 c.op) := by rw [← hW]; simp
  have c2 : W.cell? ⟨w.heap.size, 2, none⟩ = some (.slice ta c.terms.length tc) := by rw [← hW]; simp
  have c3 : W.cell? ⟨w.heap.size, 3, none⟩ = some (.int .i64 c.k) := by rw [← hW]; simp
  have c4 : W.cell? ⟨w.heap.size, 4, none⟩ = some (.int .i64 c.v) := by rw [← hW]; simp
  have c5 : W.cell? ⟨w.heap.size, 5, none⟩ = some (.int .i64 c.x) := by rw [← hW]; simp
  have c6 : W.cell? ⟨w.heap.size, 6, none⟩ = some (.int .i64 c.y) := by rw [← hW]; simp
  have c7 : W.cell? ⟨w.heap.size, 7, none⟩ = some (.slice xa c.xs.length xc) := by rw [← hW]; simp
  have c8 : W.cell? ⟨w.heap.size, 8, none⟩ = some (.slice ba c.table.length bc) := by rw [← hW]; simp
  have c9 : W.cell? ⟨w.heap.size, 9, none⟩ = some (.slice ra c.rows.length rc) := by rw [← hW]; simp
  have hsz : W.heap.size = w.heap.size + 1 := by rw [← hW]; simp
  have hsN : w.heap.size < W.heap.size := by omega
  have HCC : Hid (∀ w', Below W.heap.size W w' → w'.cell? ⟨w.heap.size, 0, none⟩ = some (.int .i64 8) ∧ w'.cell? ⟨w.heap.size, 1, none⟩ = some (.int .i64 c.op) ∧ w'.cell? ⟨w.heap.size, 2, none⟩ = some (.slice ta c.terms.length tc) ∧ w'.cell? ⟨w.heap.size, 3, none⟩ = some (.int .i64 c.k) ∧ w'.cell? ⟨w.heap.size, 4, none⟩ = some (.int .i64 c.v) ∧ w'.cell? ⟨w.heap.size, 5, none⟩ = some (.int .i64 c.x) ∧ w'.cell? ⟨w.heap.size, 6, none⟩ = some (.int .i64 c.y) ∧ w'.cell? ⟨w.heap.size, 7, none⟩ = some (.slice xa c.xs.length xc) ∧ w'.cell? ⟨w.heap.size, 8, none⟩ = some (.slice ba c.table.length bc) ∧ w'.cell? ⟨w.heap.size, 9, none⟩ = some (.slice ra c.rows.length rc)) := fun w' hb => ⟨(hb.cell (p := ⟨w.heap.size, 0, none⟩) hsN).trans c0, (hb.cell (p := ⟨w.heap.size, 1, none⟩) hsN).trans c1, (hb.cell (p := ⟨w.heap.size, 2, none⟩) hsN).trans c2, (hb.cell (p := ⟨w.heap.size, 3, none⟩) hsN).trans c3, (hb.cell (p := ⟨w.heap.size, 4, none⟩) hsN).trans c4, (hb.cell (p := ⟨w.heap.size, 5, none⟩) hsN).trans c5, (hb.cell (p := ⟨w.heap.size, 6, none⟩) hsN).trans c6, (hb.cell (p := ⟨w.heap.size, 7, none⟩) hsN).trans c7, (hb.cell (p := ⟨w.heap.size, 8, none⟩) hsN).trans c8, (hb.cell (p := ⟨w.heap.size, 9, none⟩) hsN).trans c9⟩
  have H35 : Hid (∀ w', CnAt w' c (.slice ta c.terms.length tc) (.slice xa c.xs.length xc) (.slice ba c.table.length bc) (.slice ra c.rows.length rc) → Calls Tryz.prog 35 #[cnVal c (.slice ta c.terms.length tc) (.slice xa c.xs.length xc) (.slice ba c.table.length bc) (.slice ra c.rows.length rc), .int .i64 (vs.length : Int)] w' fun e w'' => e = .returned (.int .i64 (Md.fault c vs.length)) ∧ Below w'.heap.size w' w'') := hcon
  rw [hf0] at H35
  unfold cnVal at H35
  rw [hk] at H35
  have hnt := HN.out
  clear hcon hf0
  unfold cnVal
  clear h hv hf hn hvc hbW hsz
  have H7 : Hid (∀ w', CnAt w' c (.slice ta c.terms.length tc) (.slice xa c.xs.length xc) (.slice ba c.table.length bc) (.slice ra c.rows.length rc) → IntsAt w' (.slice (some ⟨bv, ov, none⟩) vs.length vc) vs → Calls Tryz.prog 75 #[cnVal c (.slice ta c.terms.length tc) (.slice xa c.xs.length xc) (.slice ba c.table.length bc) (.slice ra c.rows.length rc), .slice (some ⟨bv, ov, none⟩) vs.length vc] w' fun e w'' => e = .returned (.bool (Md.tbB c vs)) ∧ Below w'.heap.size w' w'') := fun w' h1 h2 => tabled_any c _ _ _ _ _ vs w' h1 h2 HF.out HN.out (by rw [hk]; rfl)
  unfold cnVal at H7
  rw [hk] at H7
  go_enter Tryz.func24, Tryz.ntmps24
  go_wp2_with (first | (go_at_call 75; refine calls_at (H7.out _ (HC.out.below hb1) (HV.out.below hb1)) (by with_reducible rfl) (by with_reducible rfl) ?_; rintro e w3 ⟨rfl, hb3⟩) | (go_at_call 35; refine calls_at (H35.out _ HC.out) (by with_reducible rfl) (by with_reducible rfl) ?_; rintro e w1 ⟨rfl, hb1⟩; obtain ⟨a0, a1, a2, a3, a4, a5, a6, a7, a8, a9⟩ := HCC.out _ hb1) | (go_at_call 53; refine (numbers_any _ vs _ (HV.out.below hb1)).mono ?_; rintro e w2 ⟨rfl, hw2⟩; rw [hw2]))
  go_ret
  exact ⟨rfl, (HB.out.trans (hb1.mono HB.out.size)).trans (hb3.mono (Nat.le_trans HB.out.size hb1.size))⟩

set_option maxRecDepth 10000 in
set_option maxHeartbeats 8000000 in
theorem refHolds_9 (c : Md.Cn) (vt vx vb vr vv : Value) (vs : List Int) (w : World) (h : CnAt w c vt vx vb vr) (hv : IntsAt w vv vs) (hf : Md.Fit c vs.length) (hn : vs.all Md.numB = true) (hcon : ∀ w', CnAt w' c vt vx vb vr → Calls Tryz.prog 35 #[cnVal c vt vx vb vr, .int .i64 (vs.length : Int)] w' fun e w'' => e = .returned (.int .i64 (Md.fault c vs.length)) ∧ Below w'.heap.size w' w'') (hf0 : Md.fault c vs.length = 0) (hk : c.kind = 9) : Calls Tryz.prog 24 #[cnVal c vt vx vb vr, vv] w fun e w' => e = .returned (.bool (Md.ctB c vs)) ∧ Below w.heap.size w w' := by
  have HF : Hid (Md.Fit c vs.length) := hf
  have HN : Hid (vs.all Md.numB = true) := hn
  obtain ⟨ta, tc, rfl, _⟩ := id h.t
  obtain ⟨xa, xc, rfl, _⟩ := id h.x
  obtain ⟨ba, bc, rfl, _⟩ := id h.b
  obtain ⟨ra, rc, rfl, _⟩ := id h.r
  have hnp : 0 < vs.length := by have := hf.x; omega
  obtain ⟨bv, ov, vc, rfl, hbv, hmv, hvc⟩ := hv.open hnp
  unfold maxLen at hmv
  obtain ⟨W, hW⟩ : ∃ W, w.alloc (.cells #[.int .i64 9, .int .i64 c.op, .slice ta c.terms.length tc, .int .i64 c.k, .int .i64 c.v, .int .i64 c.x, .int .i64 c.y, .slice xa c.xs.length xc, .slice ba c.table.length bc, .slice ra c.rows.length rc] 62) = W := ⟨_, rfl⟩
  have hbW : Below w.heap.size w W := by rw [← hW]; exact (Below.refl _ _).alloc (Nat.le_refl _) _
  have HB : Hid (Below w.heap.size w W) := hbW
  have HC : Hid (CnAt W c (.slice ta c.terms.length tc) (.slice xa c.xs.length xc) (.slice ba c.table.length bc) (.slice ra c.rows.length rc)) := h.below hbW
  have HV : Hid (IntsAt W (.slice (some ⟨bv, ov, none⟩) vs.length vc) vs) := hv.below hbW
  have HVC : Hid (∀ w', Below W.heap.size W w' → ∀ m : Nat, m < vs.length → w'.cell? ⟨bv, ov + m, none⟩ = some (.int .i64 (Md.val vs (m : Int)))) := fun w' hb m hm => ((hb.cell (p := ⟨bv, ov + m, none⟩) (Nat.lt_of_lt_of_le hbv hbW.size)).trans (hbW.cell (p := ⟨bv, ov + m, none⟩) hbv)).trans (hvc m hm)
  have c0 : W.cell? ⟨w.heap.size, 0, none⟩ = some (.int .i64 9) := by rw [← hW]; simp
  have c1 : W.cell? ⟨w.heap.size, 1, none⟩ = some (.int .i64 c.op) := by rw [← hW]; simp
  have c2 : W.cell? ⟨w.heap.size, 2, none⟩ = some (.slice ta c.terms.length tc) := by rw [← hW]; simp
  have c3 : W.cell? ⟨w.heap.size, 3, none⟩ = some (.int .i64 c.k) := by rw [← hW]; simp
  have c4 : W.cell? ⟨w.heap.size, 4, none⟩ = some (.int .i64 c.v) := by rw [← hW]; simp
  have c5 : W.cell? ⟨w.heap.size, 5, none⟩ = some (.int .i64 c.x) := by rw [← hW]; simp
  have c6 : W.cell? ⟨w.heap.size, 6, none⟩ = some (.int .i64 c.y) := by rw [← hW]; simp
  have c7 : W.cell? ⟨w.heap.size, 7, none⟩ = some (.slice xa c.xs.length xc) := by rw [← hW]; simp
  have c8 : W.cell? ⟨w.heap.size, 8, none⟩ = some (.slice ba c.table.length bc) := by rw [← hW]; simp
  have c9 : W.cell? ⟨w.heap.size, 9, none⟩ = some (.slice ra c.rows.length rc) := by rw [← hW]; simp
  have hsz : W.heap.size = w.heap.size + 1 := by rw [← hW]; simp
  have hsN : w.heap.size < W.heap.size := by omega
  have HCC : Hid (∀ w', Below W.heap.size W w' → w'.cell? ⟨w.heap.size, 0, none⟩ = some (.int .i64 9) ∧ w'.cell? ⟨w.heap.size, 1, none⟩ = some (.int .i64 c.op) ∧ w'.cell? ⟨w.heap.size, 2, none⟩ = some (.slice ta c.terms.length tc) ∧ w'.cell? ⟨w.heap.size, 3, none⟩ = some (.int .i64 c.k) ∧ w'.cell? ⟨w.heap.size, 4, none⟩ = some (.int .i64 c.v) ∧ w'.cell? ⟨w.heap.size, 5, none⟩ = some (.int .i64 c.x) ∧ w'.cell? ⟨w.heap.size, 6, none⟩ = some (.int .i64 c.y) ∧ w'.cell? ⟨w.heap.size, 7, none⟩ = some (.slice xa c.xs.length xc) ∧ w'.cell? ⟨w.heap.size, 8, none⟩ = some (.slice ba c.table.length bc) ∧ w'.cell? ⟨w.heap.size, 9, none⟩ = some (.slice ra c.rows.length rc)) := fun w' hb => ⟨(hb.cell (p := ⟨w.heap.size, 0, none⟩) hsN).trans c0, (hb.cell (p := ⟨w.heap.size, 1, none⟩) hsN).trans c1, (hb.cell (p := ⟨w.heap.size, 2, none⟩) hsN).trans c2, (hb.cell (p := ⟨w.heap.size, 3, none⟩) hsN).trans c3, (hb.cell (p := ⟨w.heap.size, 4, none⟩) hsN).trans c4, (hb.cell (p := ⟨w.heap.size, 5, none⟩) hsN).trans c5, (hb.cell (p := ⟨w.heap.size, 6, none⟩) hsN).trans c6, (hb.cell (p := ⟨w.heap.size, 7, none⟩) hsN).trans c7, (hb.cell (p := ⟨w.heap.size, 8, none⟩) hsN).trans c8, (hb.cell (p := ⟨w.heap.size, 9, none⟩) hsN).trans c9⟩
  have H35 : Hid (∀ w', CnAt w' c (.slice ta c.terms.length tc) (.slice xa c.xs.length xc) (.slice ba c.table.length bc) (.slice ra c.rows.length rc) → Calls Tryz.prog 35 #[cnVal c (.slice ta c.terms.length tc) (.slice xa c.xs.length xc) (.slice ba c.table.length bc) (.slice ra c.rows.length rc), .int .i64 (vs.length : Int)] w' fun e w'' => e = .returned (.int .i64 (Md.fault c vs.length)) ∧ Below w'.heap.size w' w'') := hcon
  rw [hf0] at H35
  unfold cnVal at H35
  rw [hk] at H35
  have hnt := HN.out
  clear hcon hf0
  unfold cnVal
  clear h hv hf hn hvc hbW hsz
  have hop := HF.out.op (by rw [hk]; rfl)
  have H7 : Hid (∀ w', CnAt w' c (.slice ta c.terms.length tc) (.slice xa c.xs.length xc) (.slice ba c.table.length bc) (.slice ra c.rows.length rc) → IntsAt w' (.slice (some ⟨bv, ov, none⟩) vs.length vc) vs → Calls Tryz.prog 76 #[cnVal c (.slice ta c.terms.length tc) (.slice xa c.xs.length xc) (.slice ba c.table.length bc) (.slice ra c.rows.length rc), .slice (some ⟨bv, ov, none⟩) vs.length vc] w' fun e w'' => e = .returned (.bool (Md.ctB c vs)) ∧ Below w'.heap.size w' w'') := fun w' h1 h2 => counted_any c _ _ _ _ _ vs w' h1 h2 HF.out HN.out (by rw [hk]; rfl) hop
  unfold cnVal at H7
  rw [hk] at H7
  go_enter Tryz.func24, Tryz.ntmps24
  go_wp2_with (first | (go_at_call 76; refine calls_at (H7.out _ (HC.out.below hb1) (HV.out.below hb1)) (by with_reducible rfl) (by with_reducible rfl) ?_; rintro e w3 ⟨rfl, hb3⟩) | (go_at_call 35; refine calls_at (H35.out _ HC.out) (by with_reducible rfl) (by with_reducible rfl) ?_; rintro e w1 ⟨rfl, hb1⟩; obtain ⟨a0, a1, a2, a3, a4, a5, a6, a7, a8, a9⟩ := HCC.out _ hb1) | (go_at_call 53; refine (numbers_any _ vs _ (HV.out.below hb1)).mono ?_; rintro e w2 ⟨rfl, hw2⟩; rw [hw2]))
  go_ret
  exact ⟨rfl, (HB.out.trans (hb1.mono HB.out.size)).trans (hb3.mono (Nat.le_trans HB.out.size hb1.size))⟩
end Go.Proofs.YtmhfabnpfkkbcaaGreat

namespace Go.Proofs.YtmhfabnpfkkbcaaGreat
open Go.RowKit

set_option maxRecDepth 10000 in
set_option maxHeartbeats 8000000 in
theorem refHolds_4 (c : Md.Cn) (vt vx vb vr vv : Value) (vs : List Int) (w : World) (h : CnAt w c vt vx vb vr) (hv : IntsAt w vv vs) (hf : Md.Fit c vs.length) (hn : vs.all Md.numB = true) (hcon : ∀ w', CnAt w' c vt vx vb vr → Calls Tryz.prog 35 #[cnVal c vt vx vb vr, .int .i64 (vs.length : Int)] w' fun e w'' => e = .returned (.int .i64 (Md.fault c vs.length)) ∧ Below w'.heap.size w' w'') (hf0 : Md.fault c vs.length = 0) (hk : c.kind = 4) : Calls Tryz.prog 24 #[cnVal c vt vx vb vr, vv] w fun e w' => e = .returned (.bool (Md.elB c vs)) ∧ Below w.heap.size w w' := by
  have HF : Hid (Md.Fit c vs.length) := hf
  have HN : Hid (vs.all Md.numB = true) := hn
  obtain ⟨ta, tc, rfl, _⟩ := id h.t
  obtain ⟨xa, xc, rfl, _⟩ := id h.x
  obtain ⟨ba, bc, rfl, _⟩ := id h.b
  obtain ⟨ra, rc, rfl, _⟩ := id h.r
  have hnp : 0 < vs.length := by have := hf.x; omega
  obtain ⟨bv, ov, vc, rfl, hbv, hmv, hvc⟩ := hv.open hnp
  unfold maxLen at hmv
  obtain ⟨W, hW⟩ : ∃ W, w.alloc (.cells #[.int .i64 4, .int .i64 c.op, .slice ta c.terms.length tc, .int .i64 c.k, .int .i64 c.v, .int .i64 c.x, .int .i64 c.y, .slice xa c.xs.length xc, .slice ba c.table.length bc, .slice ra c.rows.length rc] 62) = W := ⟨_, rfl⟩
  have hbW : Below w.heap.size w W := by rw [← hW]; exact (Below.refl _ _).alloc (Nat.le_refl _) _
  have HB : Hid (Below w.heap.size w W) := hbW
  have HC : Hid (CnAt W c (.slice ta c.terms.length tc) (.slice xa c.xs.length xc) (.slice ba c.table.length bc) (.slice ra c.rows.length rc)) := h.below hbW
  have HV : Hid (IntsAt W (.slice (some ⟨bv, ov, none⟩) vs.length vc) vs) := hv.below hbW
  have HVC : Hid (∀ w', Below W.heap.size W w' → ∀ m : Nat, m < vs.length → w'.cell? ⟨bv, ov + m, none⟩ = some (.int .i64 (Md.val vs (m : Int)))) := fun w' hb m hm => ((hb.cell (p := ⟨bv, ov + m, none⟩) (Nat.lt_of_lt_of_le hbv hbW.size)).trans (hbW.cell (p := ⟨bv, ov + m, none⟩) hbv)).trans (hvc m hm)
  have c0 : W.cell? ⟨w.heap.size, 0, none⟩ = some (.int .i64 4) := by rw [← hW]; simp
  have c1 : W.cell? ⟨w.heap.size, 1, none⟩ = some (.int .i64 c.op) := by rw [← hW]; simp
  have c2 : W.cell? ⟨w.heap.size, 2, none⟩ = some (.slice ta c.terms.length tc) := by rw [← hW]; simp
  have c3 : W.cell? ⟨w.heap.size, 3, none⟩ = some (.int .i64 c.k) := by rw [← hW]; simp
  have c4 : W.cell? ⟨w.heap.size, 4, none⟩ = some (.int .i64 c.v) := by rw [← hW]; simp
  have c5 : W.cell? ⟨w.heap.size, 5, none⟩ = some (.int .i64 c.x) := by rw [← hW]; simp
  have c6 : W.cell? ⟨w.heap.size, 6, none⟩ = some (.int .i64 c.y) := by rw [← hW]; simp
  have c7 : W.cell? ⟨w.heap.size, 7, none⟩ = some (.slice xa c.xs.length xc) := by rw [← hW]; simp
  have c8 : W.cell? ⟨w.heap.size, 8, none⟩ = some (.slice ba c.table.length bc) := by rw [← hW]; simp
  have c9 : W.cell? ⟨w.heap.size, 9, none⟩ = some (.slice ra c.rows.length rc) := by rw [← hW]; simp
  have hsz : W.heap.size = w.heap.size + 1 := by rw [← hW]; simp
  have hsN : w.heap.size < W.heap.size := by omega
  have HCC : Hid (∀ w', Below W.heap.size W w' → w'.cell? ⟨w.heap.size, 0, none⟩ = some (.int .i64 4) ∧ w'.cell? ⟨w.heap.size, 1, none⟩ = some (.int .i64 c.op) ∧ w'.cell? ⟨w.heap.size, 2, none⟩ = some (.slice ta c.terms.length tc) ∧ w'.cell? ⟨w.heap.size, 3, none⟩ = some (.int .i64 c.k) ∧ w'.cell? ⟨w.heap.size, 4, none⟩ = some (.int .i64 c.v) ∧ w'.cell? ⟨w.heap.size, 5, none⟩ = some (.int .i64 c.x) ∧ w'.cell? ⟨w.heap.size, 6, none⟩ = some (.int .i64 c.y) ∧ w'.cell? ⟨w.heap.size, 7, none⟩ = some (.slice xa c.xs.length xc) ∧ w'.cell? ⟨w.heap.size, 8, none⟩ = some (.slice ba c.table.length bc) ∧ w'.cell? ⟨w.heap.size, 9, none⟩ = some (.slice ra c.rows.length rc)) := fun w' hb => ⟨(hb.cell (p := ⟨w.heap.size, 0, none⟩) hsN).trans c0, (hb.cell (p := ⟨w.heap.size, 1, none⟩) hsN).trans c1, (hb.cell (p := ⟨w.heap.size, 2, none⟩) hsN).trans c2, (hb.cell (p := ⟨w.heap.size, 3, none⟩) hsN).trans c3, (hb.cell (p := ⟨w.heap.size, 4, none⟩) hsN).trans c4, (hb.cell (p := ⟨w.heap.size, 5, none⟩) hsN).trans c5, (hb.cell (p := ⟨w.heap.size, 6, none⟩) hsN).trans c6, (hb.cell (p := ⟨w.heap.size, 7, none⟩) hsN).trans c7, (hb.cell (p := ⟨w.heap.size, 8, none⟩) hsN).trans c8, (hb.cell (p := ⟨w.heap.size, 9, none⟩) hsN).trans c9⟩
  have H35 : Hid (∀ w', CnAt w' c (.slice ta c.terms.length tc) (.slice xa c.xs.length xc) (.slice ba c.table.length bc) (.slice ra c.rows.length rc) → Calls Tryz.prog 35 #[cnVal c (.slice ta c.terms.length tc) (.slice xa c.xs.length xc) (.slice ba c.table.length bc) (.slice ra c.rows.length rc), .int .i64 (vs.length : Int)] w' fun e w'' => e = .returned (.int .i64 (Md.fault c vs.length)) ∧ Below w'.heap.size w' w'') := hcon
  rw [hf0] at H35
  unfold cnVal at H35
  rw [hk] at H35
  have hnt := HN.out
  clear hcon hf0
  unfold cnVal
  clear h hv hf hn hvc hbW hsz
  obtain ⟨mx, hmx, hlx⟩ := nat_of HF.out.x
  have hlxI : (mx : Int) < (vs.length : Int) := by omega
  have HMX : Hid (c.x = (mx : Int)) := hmx
  clear hmx
  obtain ⟨my, hmy, hly⟩ := nat_of HF.out.y
  have hlyI : (my : Int) < (vs.length : Int) := by omega
  have HMY : Hid (c.y = (my : Int)) := hmy
  clear hmy
  have hres : Hid (Md.elB c vs = decide (0 ≤ Md.val vs (mx : Int) ∧ Md.val vs (mx : Int) < c.table.length ∧ Md.val vs (my : Int) = c.table.getD (Md.val vs (mx : Int)).toNat 0)) := by show _ = _; unfold Md.elB; rw [HMX.out, HMY.out]
  have HVX : Hid (∀ w', Below W.heap.size W w' → w'.cell? ⟨bv, ov + mx, none⟩ = some (.int .i64 (Md.val vs (mx : Int))) ∧ w'.cell? ⟨bv, ov + my, none⟩ = some (.int .i64 (Md.val vs (my : Int)))) := fun w' hb => ⟨HVC.out w' hb mx hlx, HVC.out w' hb my hly⟩
  generalize Md.val vs (mx : Int) = x at *
  generalize Md.val vs (my : Int) = y at *
  by_cases hx0 : 0 ≤ x
  · by_cases hx1 : x < (c.table.length : Int)
    · obtain ⟨m, hm, hml⟩ := nat_of ⟨hx0, hx1⟩
      subst hm
      obtain ⟨bt, ot, ct, hte, hbt, _, htc⟩ := HC.out.b.open2 (by omega)
      injection hte with e1 e2 e3
      subst e1 e3
      have HTC : Hid (∀ w', Below W.heap.size W w' → w'.cell? ⟨bt, ot + m, none⟩ = some (.int .i64 c.table[m])) := fun w' hb => (hb.cell (p := ⟨bt, ot + m, none⟩) hbt).trans (htc m hml)
      have hres2 : Hid (Md.elB c vs = decide (y = c.table[m])) := by
        show _ = _
        rw [hres.out, List.getD_eq_getElem?_getD, Int.toNat_natCast, List.getElem?_eq_getElem hml]
        simp [hml]
      clear htc e2
      generalize c.table[m] = z at *
      go_enter Tryz.func24, Tryz.ntmps24
      go_wp2_with (first | (go_at_call 35; refine calls_at (H35.out _ HC.out) (by with_reducible rfl) (by with_reducible rfl) ?_; rintro e w1 ⟨rfl, hb1⟩; obtain ⟨a0, a1, a2, a3, a4, a5, a6, a7, a8, a9⟩ := HCC.out _ hb1; obtain ⟨dx, dy⟩ := HVX.out _ hb1; rw [HMX.out] at a5; rw [HMY.out] at a6; have dt := HTC.out _ hb1) | (go_at_call 53; refine (numbers_any _ vs _ (HV.out.below hb1)).mono ?_; rintro e w2 ⟨rfl, hw2⟩; rw [hw2]))
      go_quiet (fail)
      go_wp2
      go_ret
      exact ⟨ret_bool (by rw [hres2.out]; rw [Bool.eq_iff_iff]; simp; exact ⟨fun h => h.symm, fun h => h.symm⟩), below_drewN (HB.out.trans (hb1.mono HB.out.size)) _⟩
    · have hd : decide (x < (c.table.length : Int)) = false := by simpa using hx1
      have hres2 : Hid (Md.elB c vs = false) := by show _ = _; rw [hres.out]; simp [hx1]
      go_enter Tryz.func24, Tryz.ntmps24
      go_wp2_with (first | (go_at_call 35; refine calls_at (H35.out _ HC.out) (by with_reducible rfl) (by with_reducible rfl) ?_; rintro e w1 ⟨rfl, hb1⟩; obtain ⟨a0, a1, a2, a3, a4, a5, a6, a7, a8, a9⟩ := HCC.out _ hb1; obtain ⟨dx, dy⟩ := HVX.out _ hb1; rw [HMX.out] at a5; rw [HMY.out] at a6) | (go_at_call 53; refine (numbers_any _ vs _ (HV.out.below hb1)).mono ?_; rintro e w2 ⟨rfl, hw2⟩; rw [hw2]))
      go_quiet (fail)
      go_wp2
      go_ret
      exact ⟨ret_bool (by rw [hres2.out]), below_drewN (HB.out.trans (hb1.mono HB.out.size)) _⟩
  · have hd : decide (0 ≤ x) = false := by simpa using hx0
    have hres2 : Hid (Md.elB c vs = false) := by show _ = _; rw [hres.out]; simp [hx0]
    go_enter Tryz.func24, Tryz.ntmps24
    go_wp2_with (first | (go_at_call 35; refine calls_at (H35.out _ HC.out) (by with_reducible rfl) (by with_reducible rfl) ?_; rintro e w1 ⟨rfl, hb1⟩; obtain ⟨a0, a1, a2, a3, a4, a5, a6, a7, a8, a9⟩ := HCC.out _ hb1; obtain ⟨dx, dy⟩ := HVX.out _ hb1; rw [HMX.out] at a5; rw [HMY.out] at a6) | (go_at_call 53; refine (numbers_any _ vs _ (HV.out.below hb1)).mono ?_; rintro e w2 ⟨rfl, hw2⟩; rw [hw2]))
    go_quiet (fail)
    go_wp2
    go_ret
    exact ⟨ret_bool (by rw [hres2.out]), below_drewN (HB.out.trans (hb1.mono HB.out.size)) _⟩

set_option maxRecDepth 10000 in
set_option maxHeartbeats 8000000 in
theorem refHolds_5 (c : Md.Cn) (vt vx vb vr vv : Value) (vs : List Int) (w : World) (h : CnAt w c vt vx vb vr) (hv : IntsAt w vv vs) (hf : Md.Fit c vs.length) (hn : vs.all Md.numB = true) (hcon : ∀ w', CnAt w' c vt vx vb vr → Calls Tryz.prog 35 #[cnVal c vt vx vb vr, .int .i64 (vs.length : Int)] w' fun e w'' => e = .returned (.int .i64 (Md.fault c vs.length)) ∧ Below w'.heap.size w' w'') (hf0 : Md.fault c vs.length = 0) (hk : c.kind = 5) : Calls Tryz.prog 24 #[cnVal c vt vx vb vr, vv] w fun e w' => e = .returned (.bool (Md.mxB c vs)) ∧ Below w.heap.size w w' := by
  have HF : Hid (Md.Fit c vs.length) := hf
  have HN : Hid (vs.all Md.numB = true) := hn
  obtain ⟨ta, tc, rfl, _⟩ := id h.t
  obtain ⟨xa, xc, rfl, _⟩ := id h.x
  obtain ⟨ba, bc, rfl, _⟩ := id h.b
  obtain ⟨ra, rc, rfl, _⟩ := id h.r
  have hnp : 0 < vs.length := by have := hf.x; omega
  obtain ⟨bv, ov, vc, rfl, hbv, hmv, hvc⟩ := hv.open hnp
  unfold maxLen at hmv
  obtain ⟨W, hW⟩ : ∃ W, w.alloc (.cells #[.int .i64 5, .int .i64 c.op, .slice ta c.terms.length tc, .int .i64 c.k, .int .i64 c.v, .int .i64 c.x, .int .i64 c.y, .slice xa c.xs.length xc, .slice ba c.table.length bc, .slice ra c.rows.length rc] 62) = W := ⟨_, rfl⟩
  have hbW : Below w.heap.size w W := by rw [← hW]; exact (Below.refl _ _).alloc (Nat.le_refl _) _
  have HB : Hid (Below w.heap.size w W) := hbW
  have HC : Hid (CnAt W c (.slice ta c.terms.length tc) (.slice xa c.xs.length xc) (.slice ba c.table.length bc) (.slice ra c.rows.length rc)) := h.below hbW
  have HV : Hid (IntsAt W (.slice (some ⟨bv, ov, none⟩) vs.length vc) vs) := hv.below hbW
  have HVC : Hid (∀ w', Below W.heap.size W w' → ∀ m : Nat, m < vs.length → w'.cell? ⟨bv, ov + m, none⟩ = some (.int .i64 (Md.val vs (m : Int)))) := fun w' hb m hm => ((hb.cell (p := ⟨bv, ov + m, none⟩) (Nat.lt_of_lt_of_le hbv hbW.size)).trans (hbW.cell (p := ⟨bv, ov + m, none⟩) hbv)).trans (hvc m hm)
  have c0 : W.cell? ⟨w.heap.size, 0, none⟩ = some (.int .i64 5) := by rw [← hW]; simp
  have c1 : W.cell? ⟨w.heap.size, 1, none⟩ = some (.int .i64 c.op) := by rw [← hW]; simp
  have c2 : W.cell? ⟨w.heap.size, 2, none⟩ = some (.slice ta c.terms.length tc) := by rw [← hW]; simp
  have c3 : W.cell? ⟨w.heap.size, 3, none⟩ = some (.int .i64 c.k) := by rw [← hW]; simp
  have c4 : W.cell? ⟨w.heap.size, 4, none⟩ = some (.int .i64 c.v) := by rw [← hW]; simp
  have c5 : W.cell? ⟨w.heap.size, 5, none⟩ = some (.int .i64 c.x) := by rw [← hW]; simp
  have c6 : W.cell? ⟨w.heap.size, 6, none⟩ = some (.int .i64 c.y) := by rw [← hW]; simp
  have c7 : W.cell? ⟨w.heap.size, 7, none⟩ = some (.slice xa c.xs.length xc) := by rw [← hW]; simp
  have c8 : W.cell? ⟨w.heap.size, 8, none⟩ = some (.slice ba c.table.length bc) := by rw [← hW]; simp
  have c9 : W.cell? ⟨w.heap.size, 9, none⟩ = some (.slice ra c.rows.length rc) := by rw [← hW]; simp
  have hsz : W.heap.size = w.heap.size + 1 := by rw [← hW]; simp
  have hsN : w.heap.size < W.heap.size := by omega
  have HCC : Hid (∀ w', Below W.heap.size W w' → w'.cell? ⟨w.heap.size, 0, none⟩ = some (.int .i64 5) ∧ w'.cell? ⟨w.heap.size, 1, none⟩ = some (.int .i64 c.op) ∧ w'.cell? ⟨w.heap.size, 2, none⟩ = some (.slice ta c.terms.length tc) ∧ w'.cell? ⟨w.heap.size, 3, none⟩ = some (.int .i64 c.k) ∧ w'.cell? ⟨w.heap.size, 4, none⟩ = some (.int .i64 c.v) ∧ w'.cell? ⟨w.heap.size, 5, none⟩ = some (.int .i64 c.x) ∧ w'.cell? ⟨w.heap.size, 6, none⟩ = some (.int .i64 c.y) ∧ w'.cell? ⟨w.heap.size, 7, none⟩ = some (.slice xa c.xs.length xc) ∧ w'.cell? ⟨w.heap.size, 8, none⟩ = some (.slice ba c.table.length bc) ∧ w'.cell? ⟨w.heap.size, 9, none⟩ = some (.slice ra c.rows.length rc)) := fun w' hb => ⟨(hb.cell (p := ⟨w.heap.size, 0, none⟩) hsN).trans c0, (hb.cell (p := ⟨w.heap.size, 1, none⟩) hsN).trans c1, (hb.cell (p := ⟨w.heap.size, 2, none⟩) hsN).trans c2, (hb.cell (p := ⟨w.heap.size, 3, none⟩) hsN).trans c3, (hb.cell (p := ⟨w.heap.size, 4, none⟩) hsN).trans c4, (hb.cell (p := ⟨w.heap.size, 5, none⟩) hsN).trans c5, (hb.cell (p := ⟨w.heap.size, 6, none⟩) hsN).trans c6, (hb.cell (p := ⟨w.heap.size, 7, none⟩) hsN).trans c7, (hb.cell (p := ⟨w.heap.size, 8, none⟩) hsN).trans c8, (hb.cell (p := ⟨w.heap.size, 9, none⟩) hsN).trans c9⟩
  have H35 : Hid (∀ w', CnAt w' c (.slice ta c.terms.length tc) (.slice xa c.xs.length xc) (.slice ba c.table.length bc) (.slice ra c.rows.length rc) → Calls Tryz.prog 35 #[cnVal c (.slice ta c.terms.length tc) (.slice xa c.xs.length xc) (.slice ba c.table.length bc) (.slice ra c.rows.length rc), .int .i64 (vs.length : Int)] w' fun e w'' => e = .returned (.int .i64 (Md.fault c vs.length)) ∧ Below w'.heap.size w' w'') := hcon
  rw [hf0] at H35
  unfold cnVal at H35
  rw [hk] at H35
  have hnt := HN.out
  clear hcon hf0
  unfold cnVal
  clear h hv hf hn hvc hbW hsz
  obtain ⟨my, hmy, hly⟩ := nat_of HF.out.y
  have hlyI : (my : Int) < (vs.length : Int) := by omega
  have HMY : Hid (c.y = (my : Int)) := hmy
  clear hmy
  have hyb := Md.val_mem HN.out (my : Int)
  have hres : Hid (Md.mxB c vs = (c.xs.all (fun x => decide (Md.val vs x ≤ Md.val vs (my : Int))) && c.xs.any (fun x => decide (Md.val vs x = Md.val vs (my : Int))))) := by show _ = _; unfold Md.mxB; rw [HMY.out]
  have HBest : Hid (∀ w', CnAt w' c (.slice ta c.terms.length tc) (.slice xa c.xs.length xc) (.slice ba c.table.length bc) (.slice ra c.rows.length rc) → IntsAt w' (.slice (some ⟨bv, ov, none⟩) vs.length vc) vs → Calls Tryz.prog 74 #[.int .i64 (Md.val vs (my : Int)), .slice xa c.xs.length xc, .slice (some ⟨bv, ov, none⟩) vs.length vc, .int .i64 1] w' fun e w'' => e = .returned (.bool (Md.mxB c vs)) ∧ w'' = w') := fun w' h1 h2 => by
    rw [hres.out]
    exact bestMax_any _ _ _ c.xs vs w' h1.x h2 (HF.out.xp (by rw [hk]; rfl)) HF.out.xl HF.out.xs HN.out hyb
  have HVY : Hid (∀ w', Below W.heap.size W w' → w'.cell? ⟨bv, ov + my, none⟩ = some (.int .i64 (Md.val vs (my : Int)))) := fun w' hb => HVC.out w' hb my hly
  generalize Md.val vs (my : Int) = y at *
  go_enter Tryz.func24, Tryz.ntmps24
  go_wp2_with (first | (go_at_call 35; refine calls_at (H35.out _ HC.out) (by with_reducible rfl) (by with_reducible rfl) ?_; rintro e w1 ⟨rfl, hb1⟩; obtain ⟨a0, a1, a2, a3, a4, a5, a6, a7, a8, a9⟩ := HCC.out _ hb1; have dy := HVY.out _ hb1; rw [HMY.out] at a6) | (go_at_call 53; refine (numbers_any _ vs _ (HV.out.below hb1)).mono ?_; rintro e w2 ⟨rfl, hw2⟩; rw [hw2]))
  have hdr : Below w1.heap.size w1 w1.drew := (Below.refl _ _).drew
  have hS0 : Hid ((fun w' => w'.cell? ⟨w.heap.size, 0, none⟩ = some (.int .i64 5) ∧ w'.cell? ⟨w.heap.size, 1, none⟩ = some (.int .i64 c.op) ∧ w'.cell? ⟨w.heap.size, 2, none⟩ = some (.slice ta c.terms.length tc) ∧ w'.cell? ⟨w.heap.size, 3, none⟩ = some (.int .i64 c.k) ∧ w'.cell? ⟨w.heap.size, 4, none⟩ = some (.int .i64 c.v) ∧ w'.cell? ⟨w.heap.size, 5, none⟩ = some (.int .i64 c.x) ∧ w'.cell? ⟨w.heap.size, 6, none⟩ = some (.int .i64 (my : Int)) ∧ w'.cell? ⟨w.heap.size, 7, none⟩ = some (.slice xa c.xs.length xc) ∧ w'.cell? ⟨w.heap.size, 8, none⟩ = some (.slice ba c.table.length bc) ∧ w'.cell? ⟨w.heap.size, 9, none⟩ = some (.slice ra c.rows.length rc) ∧ w'.cell? ⟨bv, ov + my, none⟩ = some (.int .i64 y) ∧ w.heap.size < w'.heap.size ∧ CnAt w' c (.slice ta c.terms.length tc) (.slice xa c.xs.length xc) (.slice ba c.table.length bc) (.slice ra c.rows.length rc) ∧ IntsAt w' (.slice (some ⟨bv, ov, none⟩) vs.length vc) vs ∧ Below w1.heap.size w1 w') w1.drew) := ⟨a0, a1, a2, a3, a4, a5, a6, a7, a8, a9, dy, Nat.lt_of_lt_of_le hsN hb1.size, (HC.out.below hb1).below hdr, (HV.out.below hb1).below hdr, hdr⟩
  go_region_held3 (fun w' => w'.cell? ⟨w.heap.size, 0, none⟩ = some (.int .i64 5) ∧ w'.cell? ⟨w.heap.size, 1, none⟩ = some (.int .i64 c.op) ∧ w'.cell? ⟨w.heap.size, 2, none⟩ = some (.slice ta c.terms.length tc) ∧ w'.cell? ⟨w.heap.size, 3, none⟩ = some (.int .i64 c.k) ∧ w'.cell? ⟨w.heap.size, 4, none⟩ = some (.int .i64 c.v) ∧ w'.cell? ⟨w.heap.size, 5, none⟩ = some (.int .i64 c.x) ∧ w'.cell? ⟨w.heap.size, 6, none⟩ = some (.int .i64 (my : Int)) ∧ w'.cell? ⟨w.heap.size, 7, none⟩ = some (.slice xa c.xs.length xc) ∧ w'.cell? ⟨w.heap.size, 8, none⟩ = some (.slice ba c.table.length bc) ∧ w'.cell? ⟨w.heap.size, 9, none⟩ = some (.slice ra c.rows.length rc) ∧ w'.cell? ⟨bv, ov + my, none⟩ = some (.int .i64 y) ∧ w.heap.size < w'.heap.size ∧ CnAt w' c (.slice ta c.terms.length tc) (.slice xa c.xs.length xc) (.slice ba c.table.length bc) (.slice ra c.rows.length rc) ∧ IntsAt w' (.slice (some ⟨bv, ov, none⟩) vs.length vc) vs ∧ Below w1.heap.size w1 w')
    (first | exact hS0.out | assumption)
    (first | (go_at_call 74; refine calls_at (HBest.out _ (Kb.cn (by assumption)) (Kb.vals (by assumption))) (by with_reducible rfl) (by with_reducible rfl) ?_; rintro e w' ⟨rfl, hww⟩; rw [hww]))
  rename_i hHeld
  have hfin := (HB.out.trans (hb1.mono HB.out.size)).trans (hHeld.2.2.2.2.2.2.2.2.2.2.2.2.2.2.mono (Nat.le_trans HB.out.size hb1.size))
  go_wp2
  go_ret
  exact ⟨rfl, hfin⟩

set_option maxRecDepth 10000 in
set_option maxHeartbeats 8000000 in
theorem refHolds_6 (c : Md.Cn) (vt vx vb vr vv : Value) (vs : List Int) (w : World) (h : CnAt w c vt vx vb vr) (hv : IntsAt w vv vs) (hf : Md.Fit c vs.length) (hn : vs.all Md.numB = true) (hcon : ∀ w', CnAt w' c vt vx vb vr → Calls Tryz.prog 35 #[cnVal c vt vx vb vr, .int .i64 (vs.length : Int)] w' fun e w'' => e = .returned (.int .i64 (Md.fault c vs.length)) ∧ Below w'.heap.size w' w'') (hf0 : Md.fault c vs.length = 0) (hk : c.kind = 6) : Calls Tryz.prog 24 #[cnVal c vt vx vb vr, vv] w fun e w' => e = .returned (.bool (Md.mnB c vs)) ∧ Below w.heap.size w w' := by
  have HF : Hid (Md.Fit c vs.length) := hf
  have HN : Hid (vs.all Md.numB = true) := hn
  obtain ⟨ta, tc, rfl, _⟩ := id h.t
  obtain ⟨xa, xc, rfl, _⟩ := id h.x
  obtain ⟨ba, bc, rfl, _⟩ := id h.b
  obtain ⟨ra, rc, rfl, _⟩ := id h.r
  have hnp : 0 < vs.length := by have := hf.x; omega
  obtain ⟨bv, ov, vc, rfl, hbv, hmv, hvc⟩ := hv.open hnp
  unfold maxLen at hmv
  obtain ⟨W, hW⟩ : ∃ W, w.alloc (.cells #[.int .i64 6, .int .i64 c.op, .slice ta c.terms.length tc, .int .i64 c.k, .int .i64 c.v, .int .i64 c.x, .int .i64 c.y, .slice xa c.xs.length xc, .slice ba c.table.length bc, .slice ra c.rows.length rc] 62) = W := ⟨_, rfl⟩
  have hbW : Below w.heap.size w W := by rw [← hW]; exact (Below.refl _ _).alloc (Nat.le_refl _) _
  have HB : Hid (Below w.heap.size w W) := hbW
  have HC : Hid (CnAt W c (.slice ta c.terms.length tc) (.slice xa c.xs.length xc) (.slice ba c.table.length bc) (.slice ra c.rows.length rc)) := h.below hbW
  have HV : Hid (IntsAt W (.slice (some ⟨bv, ov, none⟩) vs.length vc) vs) := hv.below hbW
  have HVC : Hid (∀ w', Below W.heap.size W w' → ∀ m : Nat, m < vs.length → w'.cell? ⟨bv, ov + m, none⟩ = some (.int .i64 (Md.val vs (m : Int)))) := fun w' hb m hm => ((hb.cell (p := ⟨bv, ov + m, none⟩) (Nat.lt_of_lt_of_le hbv hbW.size)).trans (hbW.cell (p := ⟨bv, ov + m, none⟩) hbv)).trans (hvc m hm)
  have c0 : W.cell? ⟨w.heap.size, 0, none⟩ = some (.int .i64 6) := by rw [← hW]; simp
  have c1 : W.cell? ⟨w.heap.size, 1, none⟩ = some (.int .i64 c.op) := by rw [← hW]; simp
  have c2 : W.cell? ⟨w.heap.size, 2, none⟩ = some (.slice ta c.terms.length tc) := by rw [← hW]; simp
  have c3 : W.cell? ⟨w.heap.size, 3, none⟩ = some (.int .i64 c.k) := by rw [← hW]; simp
  have c4 : W.cell? ⟨w.heap.size, 4, none⟩ = some (.int .i64 c.v) := by rw [← hW]; simp
  have c5 : W.cell? ⟨w.heap.size, 5, none⟩ = some (.int .i64 c.x) := by rw [← hW]; simp
  have c6 : W.cell? ⟨w.heap.size, 6, none⟩ = some (.int .i64 c.y) := by rw [← hW]; simp
  have c7 : W.cell? ⟨w.heap.size, 7, none⟩ = some (.slice xa c.xs.length xc) := by rw [← hW]; simp
  have c8 : W.cell? ⟨w.heap.size, 8, none⟩ = some (.slice ba c.table.length bc) := by rw [← hW]; simp
  have c9 : W.cell? ⟨w.heap.size, 9, none⟩ = some (.slice ra c.rows.length rc) := by rw [← hW]; simp
  have hsz : W.heap.size = w.heap.size + 1 := by rw [← hW]; simp
  have hsN : w.heap.size < W.heap.size := by omega
  have HCC : Hid (∀ w', Below W.heap.size W w' → w'.cell? ⟨w.heap.size, 0, none⟩ = some (.int .i64 6) ∧ w'.cell? ⟨w.heap.size, 1, none⟩ = some (.int .i64 c.op) ∧ w'.cell? ⟨w.heap.size, 2, none⟩ = some (.slice ta c.terms.length tc) ∧ w'.cell? ⟨w.heap.size, 3, none⟩ = some (.int .i64 c.k) ∧ w'.cell? ⟨w.heap.size, 4, none⟩ = some (.int .i64 c.v) ∧ w'.cell? ⟨w.heap.size, 5, none⟩ = some (.int .i64 c.x) ∧ w'.cell? ⟨w.heap.size, 6, none⟩ = some (.int .i64 c.y) ∧ w'.cell? ⟨w.heap.size, 7, none⟩ = some (.slice xa c.xs.length xc) ∧ w'.cell? ⟨w.heap.size, 8, none⟩ = some (.slice ba c.table.length bc) ∧ w'.cell? ⟨w.heap.size, 9, none⟩ = some (.slice ra c.rows.length rc)) := fun w' hb => ⟨(hb.cell (p := ⟨w.heap.size, 0, none⟩) hsN).trans c0, (hb.cell (p := ⟨w.heap.size, 1, none⟩) hsN).trans c1, (hb.cell (p := ⟨w.heap.size, 2, none⟩) hsN).trans c2, (hb.cell (p := ⟨w.heap.size, 3, none⟩) hsN).trans c3, (hb.cell (p := ⟨w.heap.size, 4, none⟩) hsN).trans c4, (hb.cell (p := ⟨w.heap.size, 5, none⟩) hsN).trans c5, (hb.cell (p := ⟨w.heap.size, 6, none⟩) hsN).trans c6, (hb.cell (p := ⟨w.heap.size, 7, none⟩) hsN).trans c7, (hb.cell (p := ⟨w.heap.size, 8, none⟩) hsN).trans c8, (hb.cell (p := ⟨w.heap.size, 9, none⟩) hsN).trans c9⟩
  have H35 : Hid (∀ w', CnAt w' c (.slice ta c.terms.length tc) (.slice xa c.xs.length xc) (.slice ba c.table.length bc) (.slice ra c.rows.length rc) → Calls Tryz.prog 35 #[cnVal c (.slice ta c.terms.length tc) (.slice xa c.xs.length xc) (.slice ba c.table.length bc) (.slice ra c.rows.length rc), .int .i64 (vs.length : Int)] w' fun e w'' => e = .returned (.int .i64 (Md.fault c vs.length)) ∧ Below w'.heap.size w' w'') := hcon
  rw [hf0] at H35
  unfold cnVal at H35
  rw [hk] at H35
  have hnt := HN.out
  clear hcon hf0
  unfold cnVal
  clear h hv hf hn hvc hbW hsz
  obtain ⟨my, hmy, hly⟩ := nat_of HF.out.y
  have hlyI : (my : Int) < (vs.length : Int) := by omega
  have HMY : Hid (c.y = (my : Int)) := hmy
  clear hmy
  have hyb := Md.val_mem HN.out (my : Int)
  have hres : Hid (Md.mnB c vs = (c.xs.all (fun x => decide (Md.val vs (my : Int) ≤ Md.val vs x)) && c.xs.any (fun x => decide (Md.val vs x = Md.val vs (my : Int))))) := by show _ = _; unfold Md.mnB; rw [HMY.out]
  have HBest : Hid (∀ w', CnAt w' c (.slice ta c.terms.length tc) (.slice xa c.xs.length xc) (.slice ba c.table.length bc) (.slice ra c.rows.length rc) → IntsAt w' (.slice (some ⟨bv, ov, none⟩) vs.length vc) vs → Calls Tryz.prog 74 #[.int .i64 (Md.val vs (my : Int)), .slice xa c.xs.length xc, .slice (some ⟨bv, ov, none⟩) vs.length vc, .int .i64 (-1)] w' fun e w'' => e = .returned (.bool (Md.mnB c vs)) ∧ w'' = w') := fun w' h1 h2 => by
    rw [hres.out]
    exact bestMin_any _ _ _ c.xs vs w' h1.x h2 (HF.out.xp (by rw [hk]; rfl)) HF.out.xl HF.out.xs HN.out hyb
  have HVY : Hid (∀ w', Below W.heap.size W w' → w'.cell? ⟨bv, ov + my, none⟩ = some (.int .i64 (Md.val vs (my : Int)))) := fun w' hb => HVC.out w' hb my hly
  generalize Md.val vs (my : Int) = y at *
  go_enter Tryz.func24, Tryz.ntmps24
  go_wp2_with (first | (go_at_call 35; refine calls_at (H35.out _ HC.out) (by with_reducible rfl) (by with_reducible rfl) ?_; rintro e w1 ⟨rfl, hb1⟩; obtain ⟨a0, a1, a2, a3, a4, a5, a6, a7, a8, a9⟩ := HCC.out _ hb1; have dy := HVY.out _ hb1; rw [HMY.out] at a6) | (go_at_call 53; refine (numbers_any _ vs _ (HV.out.below hb1)).mono ?_; rintro e w2 ⟨rfl, hw2⟩; rw [hw2]))
  have hdr : Below w1.heap.size w1 w1.drew := (Below.refl _ _).drew
  have hS0 : Hid ((fun w' => w'.cell? ⟨w.heap.size, 0, none⟩ = some (.int .i64 6) ∧ w'.cell? ⟨w.heap.size, 1, none⟩ = some (.int .i64 c.op) ∧ w'.cell? ⟨w.heap.size, 2, none⟩ = some (.slice ta c.terms.length tc) ∧ w'.cell? ⟨w.heap.size, 3, none⟩ = some (.int .i64 c.k) ∧ w'.cell? ⟨w.heap.size, 4, none⟩ = some (.int .i64 c.v) ∧ w'.cell? ⟨w.heap.size, 5, none⟩ = some (.int .i64 c.x) ∧ w'.cell? ⟨w.heap.size, 6, none⟩ = some (.int .i64 (my : Int)) ∧ w'.cell? ⟨w.heap.size, 7, none⟩ = some (.slice xa c.xs.length xc) ∧ w'.cell? ⟨w.heap.size, 8, none⟩ = some (.slice ba c.table.length bc) ∧ w'.cell? ⟨w.heap.size, 9, none⟩ = some (.slice ra c.rows.length rc) ∧ w'.cell? ⟨bv, ov + my, none⟩ = some (.int .i64 y) ∧ w.heap.size < w'.heap.size ∧ CnAt w' c (.slice ta c.terms.length tc) (.slice xa c.xs.length xc) (.slice ba c.table.length bc) (.slice ra c.rows.length rc) ∧ IntsAt w' (.slice (some ⟨bv, ov, none⟩) vs.length vc) vs ∧ Below w1.heap.size w1 w') w1.drew) := ⟨a0, a1, a2, a3, a4, a5, a6, a7, a8, a9, dy, Nat.lt_of_lt_of_le hsN hb1.size, (HC.out.below hb1).below hdr, (HV.out.below hb1).below hdr, hdr⟩
  go_region_held3 (fun w' => w'.cell? ⟨w.heap.size, 0, none⟩ = some (.int .i64 6) ∧ w'.cell? ⟨w.heap.size, 1, none⟩ = some (.int .i64 c.op) ∧ w'.cell? ⟨w.heap.size, 2, none⟩ = some (.slice ta c.terms.length tc) ∧ w'.cell? ⟨w.heap.size, 3, none⟩ = some (.int .i64 c.k) ∧ w'.cell? ⟨w.heap.size, 4, none⟩ = some (.int .i64 c.v) ∧ w'.cell? ⟨w.heap.size, 5, none⟩ = some (.int .i64 c.x) ∧ w'.cell? ⟨w.heap.size, 6, none⟩ = some (.int .i64 (my : Int)) ∧ w'.cell? ⟨w.heap.size, 7, none⟩ = some (.slice xa c.xs.length xc) ∧ w'.cell? ⟨w.heap.size, 8, none⟩ = some (.slice ba c.table.length bc) ∧ w'.cell? ⟨w.heap.size, 9, none⟩ = some (.slice ra c.rows.length rc) ∧ w'.cell? ⟨bv, ov + my, none⟩ = some (.int .i64 y) ∧ w.heap.size < w'.heap.size ∧ CnAt w' c (.slice ta c.terms.length tc) (.slice xa c.xs.length xc) (.slice ba c.table.length bc) (.slice ra c.rows.length rc) ∧ IntsAt w' (.slice (some ⟨bv, ov, none⟩) vs.length vc) vs ∧ Below w1.heap.size w1 w')
    (first | exact hS0.out | assumption)
    (first | (go_at_call 74; refine calls_at (HBest.out _ (Kb.cn (by assumption)) (Kb.vals (by assumption))) (by with_reducible rfl) (by with_reducible rfl) ?_; rintro e w' ⟨rfl, hww⟩; rw [hww]))
  rename_i hHeld
  have hfin := (HB.out.trans (hb1.mono HB.out.size)).trans (hHeld.2.2.2.2.2.2.2.2.2.2.2.2.2.2.mono (Nat.le_trans HB.out.size hb1.size))
  go_wp2
  go_ret
  exact ⟨rfl, hfin⟩
end Go.Proofs.YtmhfabnpfkkbcaaGreat

namespace Go.Proofs.YtmhfabnpfkkbcaaGreat
open Go.RowKit

set_option maxRecDepth 10000 in
set_option maxHeartbeats 8000000 in
theorem refHolds_1 (c : Md.Cn) (vt vx vb vr vv : Value) (vs : List Int) (w : World) (h : CnAt w c vt vx vb vr) (hv : IntsAt w vv vs) (hf : Md.Fit c vs.length) (hn : vs.all Md.numB = true) (hcon : ∀ w', CnAt w' c vt vx vb vr → Calls Tryz.prog 35 #[cnVal c vt vx vb vr, .int .i64 (vs.length : Int)] w' fun e w'' => e = .returned (.int .i64 (Md.fault c vs.length)) ∧ Below w'.heap.size w' w'') (hf0 : Md.fault c vs.length = 0) (hk : c.kind = 1) : Calls Tryz.prog 24 #[cnVal c vt vx vb vr, vv] w fun e w' => e = .returned (.bool (Md.linB c vs)) ∧ Below w.heap.size w w' := by
  have HF : Hid (Md.Fit c vs.length) := hf
  have HN : Hid (vs.all Md.numB = true) := hn
  obtain ⟨ta, tc, rfl, _⟩ := id h.t
  obtain ⟨xa, xc, rfl, _⟩ := id h.x
  obtain ⟨ba, bc, rfl, _⟩ := id h.b
  obtain ⟨ra, rc, rfl, _⟩ := id h.r
  have hnp : 0 < vs.length := by have := hf.x; omega
  obtain ⟨bv, ov, vc, rfl, hbv, hmv, hvc⟩ := hv.open hnp
  unfold maxLen at hmv
  obtain ⟨W, hW⟩ : ∃ W, w.alloc (.cells #[.int .i64 1, .int .i64 c.op, .slice ta c.terms.length tc, .int .i64 c.k, .int .i64 c.v, .int .i64 c.x, .int .i64 c.y, .slice xa c.xs.length xc, .slice ba c.table.length bc, .slice ra c.rows.length rc] 62) = W := ⟨_, rfl⟩
  have hbW : Below w.heap.size w W := by rw [← hW]; exact (Below.refl _ _).alloc (Nat.le_refl _) _
  have HB : Hid (Below w.heap.size w W) := hbW
  have HC : Hid (CnAt W c (.slice ta c.terms.length tc) (.slice xa c.xs.length xc) (.slice ba c.table.length bc) (.slice ra c.rows.length rc)) := h.below hbW
  have HV : Hid (IntsAt W (.slice (some ⟨bv, ov, none⟩) vs.length vc) vs) := hv.below hbW
  have HVC : Hid (∀ w', Below W.heap.size W w' → ∀ m : Nat, m < vs.length → w'.cell? ⟨bv, ov + m, none⟩ = some (.int .i64 (Md.val vs (m : Int)))) := fun w' hb m hm => ((hb.cell (p := ⟨bv, ov + m, none⟩) (Nat.lt_of_lt_of_le hbv hbW.size)).trans (hbW.cell (p := ⟨bv, ov + m, none⟩) hbv)).trans (hvc m hm)
  have c0 : W.cell? ⟨w.heap.size, 0, none⟩ = some (.int .i64 1) := by rw [← hW]; simp
  have c1 : W.cell? ⟨w.heap.size, 1, none⟩ = some (.int .i64 c.op) := by rw [← hW]; simp
  have c2 : W.cell? ⟨w.heap.size, 2, none⟩ = some (.slice ta c.terms.length tc) := by rw [← hW]; simp
  have c3 : W.cell? ⟨w.heap.size, 3, none⟩ = some (.int .i64 c.k) := by rw [← hW]; simp
  have c4 : W.cell? ⟨w.heap.size, 4, none⟩ = some (.int .i64 c.v) := by rw [← hW]; simp
  have c5 : W.cell? ⟨w.heap.size, 5, none⟩ = some (.int .i64 c.x) := by rw [← hW]; simp
  have c6 : W.cell? ⟨w.heap.size, 6, none⟩ = some (.int .i64 c.y) := by rw [← hW]; simp
  have c7 : W.cell? ⟨w.heap.size, 7, none⟩ = some (.slice xa c.xs.length xc) := by rw [← hW]; simp
  have c8 : W.cell? ⟨w.heap.size, 8, none⟩ = some (.slice ba c.table.length bc) := by rw [← hW]; simp
  have c9 : W.cell? ⟨w.heap.size, 9, none⟩ = some (.slice ra c.rows.length rc) := by rw [← hW]; simp
  have hsz : W.heap.size = w.heap.size + 1 := by rw [← hW]; simp
  have hsN : w.heap.size < W.heap.size := by omega
  have HCC : Hid (∀ w', Below W.heap.size W w' → w'.cell? ⟨w.heap.size, 0, none⟩ = some (.int .i64 1) ∧ w'.cell? ⟨w.heap.size, 1, none⟩ = some (.int .i64 c.op) ∧ w'.cell? ⟨w.heap.size, 2, none⟩ = some (.slice ta c.terms.length tc) ∧ w'.cell? ⟨w.heap.size, 3, none⟩ = some (.int .i64 c.k) ∧ w'.cell? ⟨w.heap.size, 4, none⟩ = some (.int .i64 c.v) ∧ w'.cell? ⟨w.heap.size, 5, none⟩ = some (.int .i64 c.x) ∧ w'.cell? ⟨w.heap.size, 6, none⟩ = some (.int .i64 c.y) ∧ w'.cell? ⟨w.heap.size, 7, none⟩ = some (.slice xa c.xs.length xc) ∧ w'.cell? ⟨w.heap.size, 8, none⟩ = some (.slice ba c.table.length bc) ∧ w'.cell? ⟨w.heap.size, 9, none⟩ = some (.slice ra c.rows.length rc)) := fun w' hb => ⟨(hb.cell (p := ⟨w.heap.size, 0, none⟩) hsN).trans c0, (hb.cell (p := ⟨w.heap.size, 1, none⟩) hsN).trans c1, (hb.cell (p := ⟨w.heap.size, 2, none⟩) hsN).trans c2, (hb.cell (p := ⟨w.heap.size, 3, none⟩) hsN).trans c3, (hb.cell (p := ⟨w.heap.size, 4, none⟩) hsN).trans c4, (hb.cell (p := ⟨w.heap.size, 5, none⟩) hsN).trans c5, (hb.cell (p := ⟨w.heap.size, 6, none⟩) hsN).trans c6, (hb.cell (p := ⟨w.heap.size, 7, none⟩) hsN).trans c7, (hb.cell (p := ⟨w.heap.size, 8, none⟩) hsN).trans c8, (hb.cell (p := ⟨w.heap.size, 9, none⟩) hsN).trans c9⟩
  have H35 : Hid (∀ w', CnAt w' c (.slice ta c.terms.length tc) (.slice xa c.xs.length xc) (.slice ba c.table.length bc) (.slice ra c.rows.length rc) → Calls Tryz.prog 35 #[cnVal c (.slice ta c.terms.length tc) (.slice xa c.xs.length xc) (.slice ba c.table.length bc) (.slice ra c.rows.length rc), .int .i64 (vs.length : Int)] w' fun e w'' => e = .returned (.int .i64 (Md.fault c vs.length)) ∧ Below w'.heap.size w' w'') := hcon
  rw [hf0] at H35
  unfold cnVal at H35
  rw [hk] at H35
  have hnt := HN.out
  clear hcon hf0
  unfold cnVal
  clear h hv hf hn hvc hbW hsz
  have hop := HF.out.op (by rw [hk]; rfl)
  go_enter Tryz.func24, Tryz.ntmps24
  go_wp2_with (first | (go_at_call 35; refine calls_at (H35.out _ HC.out) (by with_reducible rfl) (by with_reducible rfl) ?_; rintro e w1 ⟨rfl, hb1⟩; obtain ⟨a0, a1, a2, a3, a4, a5, a6, a7, a8, a9⟩ := HCC.out _ hb1) | (go_at_call 53; refine (numbers_any _ vs _ (HV.out.below hb1)).mono ?_; rintro e w2 ⟨rfl, hw2⟩; rw [hw2]))
  have hS0 : Hid (Kg w1 w.heap.size 1 c ta tc xa xc ba bc ra rc (.slice (some ⟨bv, ov, none⟩) vs.length vc) vs w1) := ⟨a0, a1, a2, a3, a4, a5, a6, a7, a8, a9, Nat.lt_of_lt_of_le hsN hb1.size, HC.out.below hb1, HV.out.below hb1, Below.refl _ _⟩
  go_region_held3 (fun w' => w'.cell? ⟨w.heap.size, 0, none⟩ = some (.int .i64 1) ∧ w'.cell? ⟨w.heap.size, 1, none⟩ = some (.int .i64 c.op) ∧ w'.cell? ⟨w.heap.size, 2, none⟩ = some (.slice ta c.terms.length tc) ∧ w'.cell? ⟨w.heap.size, 3, none⟩ = some (.int .i64 c.k) ∧ w'.cell? ⟨w.heap.size, 4, none⟩ = some (.int .i64 c.v) ∧ w'.cell? ⟨w.heap.size, 5, none⟩ = some (.int .i64 c.x) ∧ w'.cell? ⟨w.heap.size, 6, none⟩ = some (.int .i64 c.y) ∧ w'.cell? ⟨w.heap.size, 7, none⟩ = some (.slice xa c.xs.length xc) ∧ w'.cell? ⟨w.heap.size, 8, none⟩ = some (.slice ba c.table.length bc) ∧ w'.cell? ⟨w.heap.size, 9, none⟩ = some (.slice ra c.rows.length rc) ∧ w.heap.size < w'.heap.size ∧ CnAt w' c (.slice ta c.terms.length tc) (.slice xa c.xs.length xc) (.slice ba c.table.length bc) (.slice ra c.rows.length rc) ∧ IntsAt w' (.slice (some ⟨bv, ov, none⟩) vs.length vc) vs ∧ Below w1.heap.size w1 w')
    (first | exact hS0.out.next (Below.refl _ _).drew | exact Kg.next (by assumption) (by assumption) | assumption)
    (first | (go_at_call 54; refine (refSum_any _ _ c.terms vs _ (Kg.cn (by assumption)).t (Kg.vals (by assumption)) HN.out HF.out.tx HF.out.tc HF.out.tl).mono ?_; rintro e w' ⟨rfl, hb⟩) | (go_at_call 72; refine (linear_any _ _ _ _ hop).mono ?_; rintro e w' ⟨rfl, hww⟩; rw [hww]))
  rename_i hHeld
  have hfin := (HB.out.trans (hb1.mono HB.out.size)).trans ((Kg.rest hHeld).mono (Nat.le_trans HB.out.size hb1.size))
  go_wp2
  go_ret
  exact ⟨rfl, hfin⟩

set_option maxRecDepth 10000 in
set_option maxHeartbeats 8000000 in
theorem refHolds_2 (c : Md.Cn) (vt vx vb vr vv : Value) (vs : List Int) (w : World) (h : CnAt w c vt vx vb vr) (hv : IntsAt w vv vs) (hf : Md.Fit c vs.length) (hn : vs.all Md.numB = true) (hcon : ∀ w', CnAt w' c vt vx vb vr → Calls Tryz.prog 35 #[cnVal c vt vx vb vr, .int .i64 (vs.length : Int)] w' fun e w'' => e = .returned (.int .i64 (Md.fault c vs.length)) ∧ Below w'.heap.size w' w'') (hf0 : Md.fault c vs.length = 0) (hk : c.kind = 2) : Calls Tryz.prog 24 #[cnVal c vt vx vb vr, vv] w fun e w' => e = .returned (.bool (Md.neB c vs)) ∧ Below w.heap.size w w' := by
  have HF : Hid (Md.Fit c vs.length) := hf
  have HN : Hid (vs.all Md.numB = true) := hn
  obtain ⟨ta, tc, rfl, _⟩ := id h.t
  obtain ⟨xa, xc, rfl, _⟩ := id h.x
  obtain ⟨ba, bc, rfl, _⟩ := id h.b
  obtain ⟨ra, rc, rfl, _⟩ := id h.r
  have hnp : 0 < vs.length := by have := hf.x; omega
  obtain ⟨bv, ov, vc, rfl, hbv, hmv, hvc⟩ := hv.open hnp
  unfold maxLen at hmv
  obtain ⟨W, hW⟩ : ∃ W, w.alloc (.cells #[.int .i64 2, .int .i64 c.op, .slice ta c.terms.length tc, .int .i64 c.k, .int .i64 c.v, .int .i64 c.x, .int .i64 c.y, .slice xa c.xs.length xc, .slice ba c.table.length bc, .slice ra c.rows.length rc] 62) = W := ⟨_, rfl⟩
  have hbW : Below w.heap.size w W := by rw [← hW]; exact (Below.refl _ _).alloc (Nat.le_refl _) _
  have HB : Hid (Below w.heap.size w W) := hbW
  have HC : Hid (CnAt W c (.slice ta c.terms.length tc) (.slice xa c.xs.length xc) (.slice ba c.table.length bc) (.slice ra c.rows.length rc)) := h.below hbW
  have HV : Hid (IntsAt W (.slice (some ⟨bv, ov, none⟩) vs.length vc) vs) := hv.below hbW
  have HVC : Hid (∀ w', Below W.heap.size W w' → ∀ m : Nat, m < vs.length → w'.cell? ⟨bv, ov + m, none⟩ = some (.int .i64 (Md.val vs (m : Int)))) := fun w' hb m hm => ((hb.cell (p := ⟨bv, ov + m, none⟩) (Nat.lt_of_lt_of_le hbv hbW.size)).trans (hbW.cell (p := ⟨bv, ov + m, none⟩) hbv)).trans (hvc m hm)
  have c0 : W.cell? ⟨w.heap.size, 0, none⟩ = some (.int .i64 2) := by rw [← hW]; simp
  have c1 : W.cell? ⟨w.heap.size, 1, none⟩ = some (.int .i64 c.op) := by rw [← hW]; simp
  have c2 : W.cell? ⟨w.heap.size, 2, none⟩ = some (.slice ta c.terms.length tc) := by rw [← hW]; simp
  have c3 : W.cell? ⟨w.heap.size, 3, none⟩ = some (.int .i64 c.k) := by rw [← hW]; simp
  have c4 : W.cell? ⟨w.heap.size, 4, none⟩ = some (.int .i64 c.v) := by rw [← hW]; simp
  have c5 : W.cell? ⟨w.heap.size, 5, none⟩ = some (.int .i64 c.x) := by rw [← hW]; simp
  have c6 : W.cell? ⟨w.heap.size, 6, none⟩ = some (.int .i64 c.y) := by rw [← hW]; simp
  have c7 : W.cell? ⟨w.heap.size, 7, none⟩ = some (.slice xa c.xs.length xc) := by rw [← hW]; simp
  have c8 : W.cell? ⟨w.heap.size, 8, none⟩ = some (.slice ba c.table.length bc) := by rw [← hW]; simp
  have c9 : W.cell? ⟨w.heap.size, 9, none⟩ = some (.slice ra c.rows.length rc) := by rw [← hW]; simp
  have hsz : W.heap.size = w.heap.size + 1 := by rw [← hW]; simp
  have hsN : w.heap.size < W.heap.size := by omega
  have HCC : Hid (∀ w', Below W.heap.size W w' → w'.cell? ⟨w.heap.size, 0, none⟩ = some (.int .i64 2) ∧ w'.cell? ⟨w.heap.size, 1, none⟩ = some (.int .i64 c.op) ∧ w'.cell? ⟨w.heap.size, 2, none⟩ = some (.slice ta c.terms.length tc) ∧ w'.cell? ⟨w.heap.size, 3, none⟩ = some (.int .i64 c.k) ∧ w'.cell? ⟨w.heap.size, 4, none⟩ = some (.int .i64 c.v) ∧ w'.cell? ⟨w.heap.size, 5, none⟩ = some (.int .i64 c.x) ∧ w'.cell? ⟨w.heap.size, 6, none⟩ = some (.int .i64 c.y) ∧ w'.cell? ⟨w.heap.size, 7, none⟩ = some (.slice xa c.xs.length xc) ∧ w'.cell? ⟨w.heap.size, 8, none⟩ = some (.slice ba c.table.length bc) ∧ w'.cell? ⟨w.heap.size, 9, none⟩ = some (.slice ra c.rows.length rc)) := fun w' hb => ⟨(hb.cell (p := ⟨w.heap.size, 0, none⟩) hsN).trans c0, (hb.cell (p := ⟨w.heap.size, 1, none⟩) hsN).trans c1, (hb.cell (p := ⟨w.heap.size, 2, none⟩) hsN).trans c2, (hb.cell (p := ⟨w.heap.size, 3, none⟩) hsN).trans c3, (hb.cell (p := ⟨w.heap.size, 4, none⟩) hsN).trans c4, (hb.cell (p := ⟨w.heap.size, 5, none⟩) hsN).trans c5, (hb.cell (p := ⟨w.heap.size, 6, none⟩) hsN).trans c6, (hb.cell (p := ⟨w.heap.size, 7, none⟩) hsN).trans c7, (hb.cell (p := ⟨w.heap.size, 8, none⟩) hsN).trans c8, (hb.cell (p := ⟨w.heap.size, 9, none⟩) hsN).trans c9⟩
  have H35 : Hid (∀ w', CnAt w' c (.slice ta c.terms.length tc) (.slice xa c.xs.length xc) (.slice ba c.table.length bc) (.slice ra c.rows.length rc) → Calls Tryz.prog 35 #[cnVal c (.slice ta c.terms.length tc) (.slice xa c.xs.length xc) (.slice ba c.table.length bc) (.slice ra c.rows.length rc), .int .i64 (vs.length : Int)] w' fun e w'' => e = .returned (.int .i64 (Md.fault c vs.length)) ∧ Below w'.heap.size w' w'') := hcon
  rw [hf0] at H35
  unfold cnVal at H35
  rw [hk] at H35
  have hnt := HN.out
  clear hcon hf0
  unfold cnVal
  clear h hv hf hn hvc hbW hsz
  obtain ⟨mx, hmx, hlx⟩ := nat_of HF.out.x
  have hlxI : (mx : Int) < (vs.length : Int) := by omega
  have HMX : Hid (c.x = (mx : Int)) := hmx
  clear hmx
  obtain ⟨my, hmy, hly⟩ := nat_of HF.out.y
  have hlyI : (my : Int) < (vs.length : Int) := by omega
  have HMY : Hid (c.y = (my : Int)) := hmy
  clear hmy
  have by1 := Md.val_mem HN.out (my : Int)
  have hkb := HF.out.k
  have hw : IntKind.i64.wrap (Md.val vs (my : Int) + c.k) = Md.val vs (my : Int) + c.k := wrap_ok (by omega) (by omega)
  have hres : Hid (Md.neB c vs = !decide (Md.val vs (mx : Int) = Md.val vs (my : Int) + c.k)) := by show _ = _; unfold Md.neB; rw [HMX.out, HMY.out]; simp
  have HVX : Hid (∀ w', Below W.heap.size W w' → w'.cell? ⟨bv, ov + mx, none⟩ = some (.int .i64 (Md.val vs (mx : Int))) ∧ w'.cell? ⟨bv, ov + my, none⟩ = some (.int .i64 (Md.val vs (my : Int)))) := fun w' hb => ⟨HVC.out w' hb mx hlx, HVC.out w' hb my hly⟩
  generalize Md.val vs (mx : Int) = x at *
  generalize Md.val vs (my : Int) = y at *
  go_enter Tryz.func24, Tryz.ntmps24
  go_wp2_with (first | (go_at_call 35; refine calls_at (H35.out _ HC.out) (by with_reducible rfl) (by with_reducible rfl) ?_; rintro e w1 ⟨rfl, hb1⟩; obtain ⟨a0, a1, a2, a3, a4, a5, a6, a7, a8, a9⟩ := HCC.out _ hb1; obtain ⟨dx, dy⟩ := HVX.out _ hb1; rw [HMX.out] at a5; rw [HMY.out] at a6) | (go_at_call 53; refine (numbers_any _ vs _ (HV.out.below hb1)).mono ?_; rintro e w2 ⟨rfl, hw2⟩; rw [hw2]))
  go_quiet (fail)
  go_wp2
  go_ret
  exact ⟨ret_bool (by rw [hres.out]; rw [Bool.eq_iff_iff]; simp), below_drewN (HB.out.trans (hb1.mono HB.out.size)) _⟩

set_option maxRecDepth 10000 in
set_option maxHeartbeats 8000000 in
theorem refHolds_3 (c : Md.Cn) (vt vx vb vr vv : Value) (vs : List Int) (w : World) (h : CnAt w c vt vx vb vr) (hv : IntsAt w vv vs) (hf : Md.Fit c vs.length) (hn : vs.all Md.numB = true) (hcon : ∀ w', CnAt w' c vt vx vb vr → Calls Tryz.prog 35 #[cnVal c vt vx vb vr, .int .i64 (vs.length : Int)] w' fun e w'' => e = .returned (.int .i64 (Md.fault c vs.length)) ∧ Below w'.heap.size w' w'') (hf0 : Md.fault c vs.length = 0) (hk : c.kind = 3) : Calls Tryz.prog 24 #[cnVal c vt vx vb vr, vv] w fun e w' => e = .returned (.bool (Md.adB c vs)) ∧ Below w.heap.size w w' := by
  have HF : Hid (Md.Fit c vs.length) := hf
  have HN : Hid (vs.all Md.numB = true) := hn
  obtain ⟨ta, tc, rfl, _⟩ := id h.t
  obtain ⟨xa, xc, rfl, _⟩ := id h.x
  obtain ⟨ba, bc, rfl, _⟩ := id h.b
  obtain ⟨ra, rc, rfl, _⟩ := id h.r
  have hnp : 0 < vs.length := by have := hf.x; omega
  obtain ⟨bv, ov, vc, rfl, hbv, hmv, hvc⟩ := hv.open hnp
  unfold maxLen at hmv
  obtain ⟨W, hW⟩ : ∃ W, w.alloc (.cells #[.int .i64 3, .int .i64 c.op, .slice ta c.terms.length tc, .int .i64 c.k, .int .i64 c.v, .int .i64 c.x, .int .i64 c.y, .slice xa c.xs.length xc, .slice ba c.table.length bc, .slice ra c.rows.length rc] 62) = W := ⟨_, rfl⟩
  have hbW : Below w.heap.size w W := by rw [← hW]; exact (Below.refl _ _).alloc (Nat.le_refl _) _
  have HB : Hid (Below w.heap.size w W) := hbW
  have HC : Hid (CnAt W c (.slice ta c.terms.length tc) (.slice xa c.xs.length xc) (.slice ba c.table.length bc) (.slice ra c.rows.length rc)) := h.below hbW
  have HV : Hid (IntsAt W (.slice (some ⟨bv, ov, none⟩) vs.length vc) vs) := hv.below hbW
  have HVC : Hid (∀ w', Below W.heap.size W w' → ∀ m : Nat, m < vs.length → w'.cell? ⟨bv, ov + m, none⟩ = some (.int .i64 (Md.val vs (m : Int)))) := fun w' hb m hm => ((hb.cell (p := ⟨bv, ov + m, none⟩) (Nat.lt_of_lt_of_le hbv hbW.size)).trans (hbW.cell (p := ⟨bv, ov + m, none⟩) hbv)).trans (hvc m hm)
  have c0 : W.cell? ⟨w.heap.size, 0, none⟩ = some (.int .i64 3) := by rw [← hW]; simp
  have c1 : W.cell? ⟨w.heap.size, 1, none⟩ = some (.int .i64 c.op) := by rw [← hW]; simp
  have c2 : W.cell? ⟨w.heap.size, 2, none⟩ = some (.slice ta c.terms.length tc) := by rw [← hW]; simp
  have c3 : W.cell? ⟨w.heap.size, 3, none⟩ = some (.int .i64 c.k) := by rw [← hW]; simp
  have c4 : W.cell? ⟨w.heap.size, 4, none⟩ = some (.int .i64 c.v) := by rw [← hW]; simp
  have c5 : W.cell? ⟨w.heap.size, 5, none⟩ = some (.int .i64 c.x) := by rw [← hW]; simp
  have c6 : W.cell? ⟨w.heap.size, 6, none⟩ = some (.int .i64 c.y) := by rw [← hW]; simp
  have c7 : W.cell? ⟨w.heap.size, 7, none⟩ = some (.slice xa c.xs.length xc) := by rw [← hW]; simp
  have c8 : W.cell? ⟨w.heap.size, 8, none⟩ = some (.slice ba c.table.length bc) := by rw [← hW]; simp
  have c9 : W.cell? ⟨w.heap.size, 9, none⟩ = some (.slice ra c.rows.length rc) := by rw [← hW]; simp
  have hsz : W.heap.size = w.heap.size + 1 := by rw [← hW]; simp
  have hsN : w.heap.size < W.heap.size := by omega
  have HCC : Hid (∀ w', Below W.heap.size W w' → w'.cell? ⟨w.heap.size, 0, none⟩ = some (.int .i64 3) ∧ w'.cell? ⟨w.heap.size, 1, none⟩ = some (.int .i64 c.op) ∧ w'.cell? ⟨w.heap.size, 2, none⟩ = some (.slice ta c.terms.length tc) ∧ w'.cell? ⟨w.heap.size, 3, none⟩ = some (.int .i64 c.k) ∧ w'.cell? ⟨w.heap.size, 4, none⟩ = some (.int .i64 c.v) ∧ w'.cell? ⟨w.heap.size, 5, none⟩ = some (.int .i64 c.x) ∧ w'.cell? ⟨w.heap.size, 6, none⟩ = some (.int .i64 c.y) ∧ w'.cell? ⟨w.heap.size, 7, none⟩ = some (.slice xa c.xs.length xc) ∧ w'.cell? ⟨w.heap.size, 8, none⟩ = some (.slice ba c.table.length bc) ∧ w'.cell? ⟨w.heap.size, 9, none⟩ = some (.slice ra c.rows.length rc)) := fun w' hb => ⟨(hb.cell (p := ⟨w.heap.size, 0, none⟩) hsN).trans c0, (hb.cell (p := ⟨w.heap.size, 1, none⟩) hsN).trans c1, (hb.cell (p := ⟨w.heap.size, 2, none⟩) hsN).trans c2, (hb.cell (p := ⟨w.heap.size, 3, none⟩) hsN).trans c3, (hb.cell (p := ⟨w.heap.size, 4, none⟩) hsN).trans c4, (hb.cell (p := ⟨w.heap.size, 5, none⟩) hsN).trans c5, (hb.cell (p := ⟨w.heap.size, 6, none⟩) hsN).trans c6, (hb.cell (p := ⟨w.heap.size, 7, none⟩) hsN).trans c7, (hb.cell (p := ⟨w.heap.size, 8, none⟩) hsN).trans c8, (hb.cell (p := ⟨w.heap.size, 9, none⟩) hsN).trans c9⟩
  have H35 : Hid (∀ w', CnAt w' c (.slice ta c.terms.length tc) (.slice xa c.xs.length xc) (.slice ba c.table.length bc) (.slice ra c.rows.length rc) → Calls Tryz.prog 35 #[cnVal c (.slice ta c.terms.length tc) (.slice xa c.xs.length xc) (.slice ba c.table.length bc) (.slice ra c.rows.length rc), .int .i64 (vs.length : Int)] w' fun e w'' => e = .returned (.int .i64 (Md.fault c vs.length)) ∧ Below w'.heap.size w' w'') := hcon
  rw [hf0] at H35
  unfold cnVal at H35
  rw [hk] at H35
  have hnt := HN.out
  clear hcon hf0
  unfold cnVal
  clear h hv hf hn hvc hbW hsz
  go_enter Tryz.func24, Tryz.ntmps24
  go_wp2_with (first | (go_at_call 73; refine (different_any _ _ c.xs vs _ (HC.out.below hb1).x (HV.out.below hb1) (HF.out.xp (by rw [hk]; rfl)) HF.out.xl HF.out.xs).mono ?_; rintro e w3 ⟨rfl, hb3⟩) | (go_at_call 35; refine calls_at (H35.out _ HC.out) (by with_reducible rfl) (by with_reducible rfl) ?_; rintro e w1 ⟨rfl, hb1⟩; obtain ⟨a0, a1, a2, a3, a4, a5, a6, a7, a8, a9⟩ := HCC.out _ hb1) | (go_at_call 53; refine (numbers_any _ vs _ (HV.out.below hb1)).mono ?_; rintro e w2 ⟨rfl, hw2⟩; rw [hw2]))
  go_ret
  exact ⟨rfl, (HB.out.trans (hb1.mono HB.out.size)).trans (hb3.mono (Nat.le_trans HB.out.size hb1.size))⟩
end Go.Proofs.YtmhfabnpfkkbcaaGreat
