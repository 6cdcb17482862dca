/-
  Put together: MdSame, MdSame1.
-/
import Derived.Test.YtjanpglnahagdaaGreatDoorJ29
import Derived.WalkSmall
import Derived.Deep.RegionHeld3
namespace Go.Proofs.YtjanpglnahagdaaGreatDoor
open Go.RowKit

set_option maxHeartbeats 400000 in
theorem sameInts_ref (va vb : Value) (l : List Int) (w : World) (ha : IntsAt w va l) (hb : IntsAt w vb l) : Calls Tryz.prog 59 #[va, vb] w fun e w' => e = .returned (.bool true) ∧ Below w.heap.size w w' := by
  obtain ⟨aa, ac, rfl, ham, hao⟩ := ha
  obtain ⟨ba, bc, rfl, hbm, hbo⟩ := hb
  unfold maxLen at ham hbm
  have HA : Hid (0 < l.length → ∃ b off, aa = some ⟨b, off, none⟩ ∧ b < w.heap.size ∧ ∀ j (h : j < l.length), w.cell? ⟨b, off + j, none⟩ = some (.int .i64 l[j])) := hao
  have HB : Hid (0 < l.length → ∃ b off, ba = some ⟨b, off, none⟩ ∧ b < w.heap.size ∧ ∀ j (h : j < l.length), w.cell? ⟨b, off + j, none⟩ = some (.int .i64 l[j])) := hbo
  clear hao hbo
  go_enter Tryz.func59, Tryz.ntmps59
  go_wp2
  go_loopw [5] (fun iv wr => ∃ k : Nat, iv = .int .i64 (k : Int) ∧ k ≤ l.length ∧ Hid (Below w.heap.size w wr)) (fun iv _ => l.length - (intOf iv).toNat)
  case atStart => exact ⟨0, rfl, Nat.zero_le _, Below.refl _ _⟩
  case round =>
    obtain ⟨k, rfl, hk, hW⟩ := hrel
    by_cases hlt : k < l.length
    · obtain ⟨b1, o1, rfl, hb1, hc1⟩ := HA.out (by omega)
      obtain ⟨b2, o2, rfl, hb2, hc2⟩ := HB.out (by omega)
      have d1 := (hW.out.cell (p := ⟨b1, o1 + k, none⟩) hb1).trans (hc1 k hlt)
      have d2 := (hW.out.cell (p := ⟨b2, o2 + k, none⟩) hb2).trans (hc2 k hlt)
      have hkI : (k : Int) < (l.length : Int) := by omega
      clear hc1 hc2
      generalize l[k] = x at *
      go_wp2
      go_quiet (fail)
      go_wp2
      go_roundw
      case rel => exact ⟨k + 1, by go_num, by omega, below_drewN hW.out _⟩
      case measure => simp [intOf]; omega
    · have hkI : ¬ (k : Int) < (l.length : Int) := by omega
      go_wp2
      go_ret
      exact ⟨rfl, hW.out⟩

set_option maxHeartbeats 400000 in
theorem sameTerms_ref (va vb : Value) (l : List (Int × Int)) (w : World) (ha : TermsAt w va l) (hb : TermsAt w vb l) : Calls Tryz.prog 26 #[va, vb] w fun e w' => e = .returned (.bool true) ∧ Below w.heap.size w w' := by
  obtain ⟨aa, ac, rfl, ham, hao⟩ := ha
  obtain ⟨ba, bc, rfl, hbm, hbo⟩ := hb
  unfold maxLen at ham hbm
  have HA : Hid (0 < l.length → ∃ b off, aa = some ⟨b, off, none⟩ ∧ b < w.heap.size ∧ ∀ j (h : j < l.length), w.cell? ⟨b, off + j * 2, none⟩ = some (.int .i64 l[j].1) ∧ w.cell? ⟨b, off + j * 2 + 1, none⟩ = some (.int .i64 l[j].2)) := hao
  have HB : Hid (0 < l.length → ∃ b off, ba = some ⟨b, off, none⟩ ∧ b < w.heap.size ∧ ∀ j (h : j < l.length), w.cell? ⟨b, off + j * 2, none⟩ = some (.int .i64 l[j].1) ∧ w.cell? ⟨b, off + j * 2 + 1, none⟩ = some (.int .i64 l[j].2)) := hbo
  clear hao hbo
  go_enter Tryz.func26, Tryz.ntmps26
  go_wp2
  go_loopw [5] (fun iv wr => ∃ k : Nat, iv = .int .i64 (k : Int) ∧ k ≤ l.length ∧ Hid (Below w.heap.size w wr)) (fun iv _ => l.length - (intOf iv).toNat)
  case atStart => exact ⟨0, rfl, Nat.zero_le _, Below.refl _ _⟩
  case round =>
    obtain ⟨k, rfl, hk, hW⟩ := hrel
    by_cases hlt : k < l.length
    · obtain ⟨b1, o1, rfl, hb1, hc1⟩ := HA.out (by omega)
      obtain ⟨b2, o2, rfl, hb2, hc2⟩ := HB.out (by omega)
      have d1 := (hW.out.cell (p := ⟨b1, o1 + k * 2, none⟩) hb1).trans (hc1 k hlt).1
      have d2 := (hW.out.cell (p := ⟨b2, o2 + k * 2, none⟩) hb2).trans (hc2 k hlt).1
      have d3 := (hW.out.cell (p := ⟨b1, o1 + k * 2 + 1, none⟩) hb1).trans (hc1 k hlt).2
      have d4 := (hW.out.cell (p := ⟨b2, o2 + k * 2 + 1, none⟩) hb2).trans (hc2 k hlt).2
      have hbin : ∀ w', (binOp .neq 101 (.agg #[.int .i64 l[k].1, .int .i64 l[k].2]) (.agg #[.int .i64 l[k].1, .int .i64 l[k].2])).run Tryz.prog w' = .ok (.bool false) w' := fun w' => by rw [term_neq]; simp
      have hkI : (k : Int) < (l.length : Int) := by omega
      clear hc1 hc2
      generalize l[k].1 = x1 at *
      generalize l[k].2 = x2 at *
      go_wp2
      go_quiet (fail)
      go_wp2
      go_roundw
      case rel => exact ⟨k + 1, by go_num, by omega, below_drewN hW.out _⟩
      case measure => simp [intOf]; omega
    · have hkI : ¬ (k : Int) < (l.length : Int) := by omega
      go_wp2
      go_ret
      exact ⟨rfl, hW.out⟩

/-- What stays while two rows are held against one another. -/
def Sr (V : World) (b1 o1 : Nat) (u1 : Value) (b2 o2 : Nat) (u2 : Value) (w' : World) : Prop := w'.cell? ⟨b1, o1, none⟩ = some u1 ∧ w'.cell? ⟨b2, o2, none⟩ = some u2 ∧ b1 < w'.heap.size ∧ b2 < w'.heap.size ∧ Below V.heap.size V w'
theorem Sr.next {V : World} {b1 o1 : Nat} {u1 : Value} {b2 o2 : Nat} {u2 : Value} {w1 w2 : World} (h : Sr V b1 o1 u1 b2 o2 u2 w1) (hb : Below w1.heap.size w1 w2) : Sr V b1 o1 u1 b2 o2 u2 w2 := by
  obtain ⟨h1, h2, h3, h4, h5⟩ := h
  exact ⟨(hb.cell (p := ⟨b1, o1, none⟩) h3).trans h1, (hb.cell (p := ⟨b2, o2, none⟩) h4).trans h2, Nat.lt_of_lt_of_le h3 hb.size, Nat.lt_of_lt_of_le h4 hb.size, h5.trans (hb.mono h5.size)⟩
theorem Sr.rest {V : World} {b1 o1 : Nat} {u1 : Value} {b2 o2 : Nat} {u2 : Value} {w1 : World} (h : Sr V b1 o1 u1 b2 o2 u2 w1) : Below V.heap.size V w1 := h.2.2.2.2
set_option maxRecDepth 10000 in
set_option maxHeartbeats 1000000 in
theorem sameRows_ref (va vb : Value) (l : List (List Int)) (w : World) (ha : RowsAt w va l) (hb : RowsAt w vb l) : Calls Tryz.prog 58 #[va, vb] w fun e w' => e = .returned (.bool true) ∧ Below w.heap.size w w' := by
  obtain ⟨aa, ac, rfl, ham, hao⟩ := ha
  obtain ⟨ba, bc, rfl, hbm, hbo⟩ := hb
  unfold maxLen at ham hbm
  have HA : Hid (0 < l.length → ∃ b off, aa = some ⟨b, off, none⟩ ∧ b < w.heap.size ∧ ∀ j (h : j < l.length), ∃ u, w.cell? ⟨b, off + j, none⟩ = some u ∧ IntsAt w u l[j]) := hao
  have HB : Hid (0 < l.length → ∃ b off, ba = some ⟨b, off, none⟩ ∧ b < w.heap.size ∧ ∀ j (h : j < l.length), ∃ u, w.cell? ⟨b, off + j, none⟩ = some u ∧ IntsAt w u l[j]) := hbo
  clear hao hbo
  go_enter Tryz.func58, Tryz.ntmps58
  go_wp2
  go_loopw [5] (fun iv wr => ∃ k : Nat, iv = .int .i64 (k : Int) ∧ k ≤ l.length ∧ Hid (Below w.heap.size w wr)) (fun iv _ => l.length - (intOf iv).toNat)
  case atStart => exact ⟨0, rfl, Nat.zero_le _, Below.refl _ _⟩
  case round =>
    obtain ⟨k, rfl, hk, hW⟩ := hrel
    by_cases hlt : k < l.length
    · obtain ⟨b1, o1, rfl, hb1, hc1⟩ := HA.out (by omega)
      obtain ⟨b2, o2, rfl, hb2, hc2⟩ := HB.out (by omega)
      obtain ⟨u1, hu1, hI1⟩ := hc1 k hlt
      obtain ⟨u2, hu2, hI2⟩ := hc2 k hlt
      have d1 := (hW.out.cell (p := ⟨b1, o1 + k, none⟩) hb1).trans hu1
      have d2 := (hW.out.cell (p := ⟨b2, o2 + k, none⟩) hb2).trans hu2
      have hkI : (k : Int) < (l.length : Int) := by omega
      have HS : Hid (∀ w', Below w.heap.size w w' → Calls Tryz.prog 59 #[u1, u2] w' fun e w'' => e = .returned (.bool true) ∧ Below w'.heap.size w' w'') := fun w' hb => sameInts_ref u1 u2 l[k] w' (hI1.below hb) (hI2.below hb)
      have HK : Hid (b1 < w.heap.size ∧ b2 < w.heap.size) := ⟨hb1, hb2⟩
      obtain ⟨ua, uc, rfl, _⟩ := hI1.form
      obtain ⟨ub, ud, rfl, _⟩ := hI2.form
      clear hc1 hc2 hI1 hI2 hu1 hu2
      rename World => wq
      have HS0 : Hid (Sr wq b1 (o1 + k) (.slice ua (l[k]).length uc) b2 (o2 + k) (.slice ub (l[k]).length ud) wq) := ⟨d1, d2, Nat.lt_of_lt_of_le hb1 hW.out.size, Nat.lt_of_lt_of_le hb2 hW.out.size, Below.refl _ _⟩
      go_wp2_with fail
      go_region_held3 (fun w' => w'.cell? ⟨b1, o1 + k, none⟩ = some (.slice ua (l[k]).length uc) ∧ w'.cell? ⟨b2, o2 + k, none⟩ = some (.slice ub (l[k]).length ud) ∧ b1 < w'.heap.size ∧ b2 < w'.heap.size ∧ Below wq.heap.size wq w')
        (first | exact HS0.out.next (Below.refl _ _).drew | exact Sr.next (by assumption) (by assumption))
        (first | (go_at_call 59; refine calls_at (HS.out _ (hW.out.trans ((Sr.rest (by assumption)).mono hW.out.size))) (by with_reducible rfl) (by with_reducible rfl) ?_; rintro e w2 ⟨rfl, hb2'⟩))
      rename_i hHeld
      have hb4 := Sr.rest hHeld
      go_wp2_with fail
      go_roundw
      case rel => exact ⟨k + 1, by go_num, by omega, hW.out.trans (hb4.mono hW.out.size)⟩
      case measure => simp [intOf]; omega
    · have hkI : ¬ (k : Int) < (l.length : Int) := by omega
      go_wp2
      go_ret
      exact ⟨rfl, hW.out⟩

set_option maxRecDepth 10000 in
set_option maxHeartbeats 4000000 in
theorem sameCon_ref (c : Md.Cn) (vt vx vb vr vt2 vx2 vb2 vr2 : Value) (w : World) (h : CnAt w c vt vx vb vr) (h' : CnAt w c vt2 vx2 vb2 vr2) : Calls Tryz.prog 27 #[cnVal c vt vx vb vr, cnVal c vt2 vx2 vb2 vr2] w fun e w' => e = .returned (.bool true) ∧ Below w.heap.size w w' := by
  obtain ⟨ta, tc, rfl, _⟩ := h.t.form
  obtain ⟨xa, xc, rfl, _⟩ := h.x.form
  obtain ⟨ba, bc, rfl, _⟩ := h.b.form
  obtain ⟨ra, rc, rfl, _⟩ := h.r.form
  obtain ⟨ta2, tc2, rfl, _⟩ := h'.t.form
  obtain ⟨xa2, xc2, rfl, _⟩ := h'.x.form
  obtain ⟨ba2, bc2, rfl, _⟩ := h'.b.form
  obtain ⟨ra2, rc2, rfl, _⟩ := h'.r.form
  obtain ⟨W, hW⟩ : ∃ W, (w.alloc (.cells #[.int .i64 c.kind, .int .i64 c.op, .slice ta c.terms.length tc, .int .i64 c.k, .int .i64 c.v, .int .i64 c.x, .int .i64 c.y, .slice xa c.xs.length xc, .slice ba c.table.length bc, .slice ra c.rows.length rc] 64)).alloc (.cells #[.int .i64 c.kind, .int .i64 c.op, .slice ta2 c.terms.length tc2, .int .i64 c.k, .int .i64 c.v, .int .i64 c.x, .int .i64 c.y, .slice xa2 c.xs.length xc2, .slice ba2 c.table.length bc2, .slice ra2 c.rows.length rc2] 64) = W := ⟨_, rfl⟩
  have hbW : Below w.heap.size w W := by rw [← hW]; exact ((Below.refl _ _).alloc (Nat.le_refl _) _).alloc (by simp) _
  have hN1 : W.heap[w.heap.size]? = some (.cells #[.int .i64 c.kind, .int .i64 c.op, .slice ta c.terms.length tc, .int .i64 c.k, .int .i64 c.v, .int .i64 c.x, .int .i64 c.y, .slice xa c.xs.length xc, .slice ba c.table.length bc, .slice ra c.rows.length rc] 64) := by rw [← hW, Below.heap_alloc _ _ _ (by simp)]; exact heap_alloc_new w _
  have hN2 : W.heap[w.heap.size + 1]? = some (.cells #[.int .i64 c.kind, .int .i64 c.op, .slice ta2 c.terms.length tc2, .int .i64 c.k, .int .i64 c.v, .int .i64 c.x, .int .i64 c.y, .slice xa2 c.xs.length xc2, .slice ba2 c.table.length bc2, .slice ra2 c.rows.length rc2] 64) := by
    rw [← hW]
    have := heap_alloc_new (w.alloc (.cells #[.int .i64 c.kind, .int .i64 c.op, .slice ta c.terms.length tc, .int .i64 c.k, .int .i64 c.v, .int .i64 c.x, .int .i64 c.y, .slice xa c.xs.length xc, .slice ba c.table.length bc, .slice ra c.rows.length rc] 64)) (.cells #[.int .i64 c.kind, .int .i64 c.op, .slice ta2 c.terms.length tc2, .int .i64 c.k, .int .i64 c.v, .int .i64 c.x, .int .i64 c.y, .slice xa2 c.xs.length xc2, .slice ba2 c.table.length bc2, .slice ra2 c.rows.length rc2] 64)
    simpa using this
  have hl1 := (Array.getElem?_eq_some_iff.1 hN1).1
  have hl2 := (Array.getElem?_eq_some_iff.1 hN2).1
  have HN1 : Hid (∀ w', Below W.heap.size W w' → w'.heap[w.heap.size]? = some (.cells #[.int .i64 c.kind, .int .i64 c.op, .slice ta c.terms.length tc, .int .i64 c.k, .int .i64 c.v, .int .i64 c.x, .int .i64 c.y, .slice xa c.xs.length xc, .slice ba c.table.length bc, .slice ra c.rows.length rc] 64)) := fun w' hb => (hb.block _ hl1).trans hN1
  have HN2 : Hid (∀ w', Below W.heap.size W w' → w'.heap[w.heap.size + 1]? = some (.cells #[.int .i64 c.kind, .int .i64 c.op, .slice ta2 c.terms.length tc2, .int .i64 c.k, .int .i64 c.v, .int .i64 c.x, .int .i64 c.y, .slice xa2 c.xs.length xc2, .slice ba2 c.table.length bc2, .slice ra2 c.rows.length rc2] 64)) := fun w' hb => (hb.block _ hl2).trans hN2
  have HA : Hid (∀ w', Below W.heap.size W w' → CnAt w' c (.slice ta c.terms.length tc) (.slice xa c.xs.length xc) (.slice ba c.table.length bc) (.slice ra c.rows.length rc)) := fun w' hb => (h.below hbW).below hb
  have HA2 : Hid (∀ w', Below W.heap.size W w' → CnAt w' c (.slice ta2 c.terms.length tc2) (.slice xa2 c.xs.length xc2) (.slice ba2 c.table.length bc2) (.slice ra2 c.rows.length rc2)) := fun w' hb => (h'.below hbW).below hb
  have HW0 : Hid (Below W.heap.size W W) := Below.refl _ _
  have HB : Hid (Below w.heap.size w W) := hbW
  obtain ⟨⟨p0, p1, p2, p3, p4, p5, p6, p7, p8, p9⟩, _⟩ := box10 hN1
  obtain ⟨⟨q0, q1, q2, q3, q4, q5, q6, q7, q8, q9⟩, _⟩ := box10 hN2
  clear h h' hbW hN1 hN2
  unfold cnVal
  go_enter Tryz.func27, Tryz.ntmps27
  go_wp2_with (first
    | (go_at_call 58; refine calls_at (sameRows_ref _ _ c.rows _ (HA.out _ HW0.out).r (HA2.out _ HW0.out).r) (by with_reducible rfl) (by with_reducible rfl) ?_; rintro e w1 ⟨rfl, hb1⟩; have HW1 : Hid (Below W.heap.size W w1) := HW0.out.trans (hb1.mono HW0.out.size); clear hb1 p0 p1 p2 p3 p4 p5 p6 p7 p8 p9 q0 q1 q2 q3 q4 q5 q6 q7 q8 q9; obtain ⟨⟨p0, p1, p2, p3, p4, p5, p6, p7, p8, p9⟩, _⟩ := box10 (HN1.out _ HW1.out); obtain ⟨⟨q0, q1, q2, q3, q4, q5, q6, q7, q8, q9⟩, _⟩ := box10 (HN2.out _ HW1.out))
    | (go_at_call 26; refine calls_at (sameTerms_ref _ _ c.terms _ (HA.out _ HW1.out).t (HA2.out _ HW1.out).t) (by with_reducible rfl) (by with_reducible rfl) ?_; rintro e w2 ⟨rfl, hb2⟩; have HW2 : Hid (Below W.heap.size W w2) := HW1.out.trans (hb2.mono HW1.out.size); clear hb2 p0 p1 p2 p3 p4 p5 p6 p7 p8 p9 q0 q1 q2 q3 q4 q5 q6 q7 q8 q9; obtain ⟨⟨p0, p1, p2, p3, p4, p5, p6, p7, p8, p9⟩, _⟩ := box10 (HN1.out _ HW2.out); obtain ⟨⟨q0, q1, q2, q3, q4, q5, q6, q7, q8, q9⟩, _⟩ := box10 (HN2.out _ HW2.out))
    | (go_at_call 59; refine calls_at (sameInts_ref _ _ c.xs _ (HA.out _ HW2.out).x (HA2.out _ HW2.out).x) (by with_reducible rfl) (by with_reducible rfl) ?_; rintro e w3 ⟨rfl, hb3⟩; have HW3 : Hid (Below W.heap.size W w3) := HW2.out.trans (hb3.mono HW2.out.size); clear hb3 p0 p1 p2 p3 p4 p5 p6 p7 p8 p9 q0 q1 q2 q3 q4 q5 q6 q7 q8 q9; obtain ⟨⟨p0, p1, p2, p3, p4, p5, p6, p7, p8, p9⟩, _⟩ := box10 (HN1.out _ HW3.out); obtain ⟨⟨q0, q1, q2, q3, q4, q5, q6, q7, q8, q9⟩, _⟩ := box10 (HN2.out _ HW3.out))
    | (go_at_call 59; refine calls_at (sameInts_ref _ _ c.table _ (HA.out _ HW3.out).b (HA2.out _ HW3.out).b) (by with_reducible rfl) (by with_reducible rfl) ?_; rintro e w4 ⟨rfl, hb4⟩; have HW4 : Hid (Below W.heap.size W w4) := HW3.out.trans (hb4.mono HW3.out.size); clear hb4 p0 p1 p2 p3 p4 p5 p6 p7 p8 p9 q0 q1 q2 q3 q4 q5 q6 q7 q8 q9; obtain ⟨⟨p0, p1, p2, p3, p4, p5, p6, p7, p8, p9⟩, _⟩ := box10 (HN1.out _ HW4.out); obtain ⟨⟨q0, q1, q2, q3, q4, q5, q6, q7, q8, q9⟩, _⟩ := box10 (HN2.out _ HW4.out)))
  go_ret
  exact ⟨rfl, HB.out.trans (HW4.out.mono HB.out.size)⟩
end Go.Proofs.YtjanpglnahagdaaGreatDoor

namespace Go.Proofs.YtjanpglnahagdaaGreatDoor
open Go.RowKit

theorem one_next {w' w'' : World} (hb : Below w'.heap.size w' w'') {a : Addr} {u : Value} (h : w'.cell? a = some u) : w''.cell? a = some u := by
  refine (hb.cell (p := a) ?_).trans h
  rcases Nat.lt_or_ge a.block w'.heap.size with hl | hl
  · exact hl
  · unfold World.cell? at h
    rw [Array.getElem?_eq_none hl] at h
    cases h

theorem Sm.next {W w' w'' : World} {c : Md.Cn} {N1 N2 q1 q2 : Nat} {ta ta2 xa xa2 ba ba2 ra ra2 : Option Addr} {tc tc2 xc xc2 bc bc2 rc rc2 : Nat} (h : w'.cell? ⟨N1, 1, none⟩ = some (.slice (some ⟨q1, 0, none⟩) 1 1) ∧ w'.cell? ⟨N2, 1, none⟩ = some (.slice (some ⟨q2, 0, none⟩) 1 1) ∧ w'.cell? ⟨q1, 0, none⟩ = some (.int .i64 c.kind) ∧ w'.cell? ⟨q1, 1, none⟩ = some (.int .i64 c.op) ∧ w'.cell? ⟨q1, 2, none⟩ = some (.slice ta c.terms.length tc) ∧ w'.cell? ⟨q1, 3, none⟩ = some (.int .i64 c.k) ∧ w'.cell? ⟨q1, 4, none⟩ = some (.int .i64 c.v) ∧ w'.cell? ⟨q1, 5, none⟩ = some (.int .i64 c.x) ∧ w'.cell? ⟨q1, 6, none⟩ = some (.int .i64 c.y) ∧ w'.cell? ⟨q1, 7, none⟩ = some (.slice xa c.xs.length xc) ∧ w'.cell? ⟨q1, 8, none⟩ = some (.slice ba c.table.length bc) ∧ w'.cell? ⟨q1, 9, none⟩ = some (.slice ra c.rows.length rc) ∧ w'.cell? ⟨q2, 0, none⟩ = some (.int .i64 c.kind) ∧ w'.cell? ⟨q2, 1, none⟩ = some (.int .i64 c.op) ∧ w'.cell? ⟨q2, 2, none⟩ = some (.slice ta2 c.terms.length tc2) ∧ w'.cell? ⟨q2, 3, none⟩ = some (.int .i64 c.k) ∧ w'.cell? ⟨q2, 4, none⟩ = some (.int .i64 c.v) ∧ w'.cell? ⟨q2, 5, none⟩ = some (.int .i64 c.x) ∧ w'.cell? ⟨q2, 6, none⟩ = some (.int .i64 c.y) ∧ w'.cell? ⟨q2, 7, none⟩ = some (.slice xa2 c.xs.length xc2) ∧ w'.cell? ⟨q2, 8, none⟩ = some (.slice ba2 c.table.length bc2) ∧ w'.cell? ⟨q2, 9, none⟩ = some (.slice ra2 c.rows.length rc2) ∧ CnAt w' c (.slice ta c.terms.length tc) (.slice xa c.xs.length xc) (.slice ba c.table.length bc) (.slice ra c.rows.length rc) ∧ CnAt w' c (.slice ta2 c.terms.length tc2) (.slice xa2 c.xs.length xc2) (.slice ba2 c.table.length bc2) (.slice ra2 c.rows.length rc2) ∧ Below W.heap.size W w') (hb : Below w'.heap.size w' w'') : w''.cell? ⟨N1, 1, none⟩ = some (.slice (some ⟨q1, 0, none⟩) 1 1) ∧ w''.cell? ⟨N2, 1, none⟩ = some (.slice (some ⟨q2, 0, none⟩) 1 1) ∧ w''.cell? ⟨q1, 0, none⟩ = some (.int .i64 c.kind) ∧ w''.cell? ⟨q1, 1, none⟩ = some (.int .i64 c.op) ∧ w''.cell? ⟨q1, 2, none⟩ = some (.slice ta c.terms.length tc) ∧ w''.cell? ⟨q1, 3, none⟩ = some (.int .i64 c.k) ∧ w''.cell? ⟨q1, 4, none⟩ = some (.int .i64 c.v) ∧ w''.cell? ⟨q1, 5, none⟩ = some (.int .i64 c.x) ∧ w''.cell? ⟨q1, 6, none⟩ = some (.int .i64 c.y) ∧ w''.cell? ⟨q1, 7, none⟩ = some (.slice xa c.xs.length xc) ∧ w''.cell? ⟨q1, 8, none⟩ = some (.slice ba c.table.length bc) ∧ w''.cell? ⟨q1, 9, none⟩ = some (.slice ra c.rows.length rc) ∧ w''.cell? ⟨q2, 0, none⟩ = some (.int .i64 c.kind) ∧ w''.cell? ⟨q2, 1, none⟩ = some (.int .i64 c.op) ∧ w''.cell? ⟨q2, 2, none⟩ = some (.slice ta2 c.terms.length tc2) ∧ w''.cell? ⟨q2, 3, none⟩ = some (.int .i64 c.k) ∧ w''.cell? ⟨q2, 4, none⟩ = some (.int .i64 c.v) ∧ w''.cell? ⟨q2, 5, none⟩ = some (.int .i64 c.x) ∧ w''.cell? ⟨q2, 6, none⟩ = some (.int .i64 c.y) ∧ w''.cell? ⟨q2, 7, none⟩ = some (.slice xa2 c.xs.length xc2) ∧ w''.cell? ⟨q2, 8, none⟩ = some (.slice ba2 c.table.length bc2) ∧ w''.cell? ⟨q2, 9, none⟩ = some (.slice ra2 c.rows.length rc2) ∧ CnAt w'' c (.slice ta c.terms.length tc) (.slice xa c.xs.length xc) (.slice ba c.table.length bc) (.slice ra c.rows.length rc) ∧ CnAt w'' c (.slice ta2 c.terms.length tc2) (.slice xa2 c.xs.length xc2) (.slice ba2 c.table.length bc2) (.slice ra2 c.rows.length rc2) ∧ Below W.heap.size W w'' := by
  obtain ⟨m1, m2, p0, p1, p2, p3, p4, p5, p6, p7, p8, p9, r0, r1, r2, r3, r4, r5, r6, r7, r8, r9, h1, h2, h3⟩ := h
  exact ⟨one_next hb m1, one_next hb m2, one_next hb p0, one_next hb p1, one_next hb p2, one_next hb p3, one_next hb p4, one_next hb p5, one_next hb p6, one_next hb p7, one_next hb p8, one_next hb p9, one_next hb r0, one_next hb r1, one_next hb r2, one_next hb r3, one_next hb r4, one_next hb r5, one_next hb r6, one_next hb r7, one_next hb r8, one_next hb r9, h1.below hb, h2.below hb, h3.trans (hb.mono h3.size)⟩

theorem Sm.cns {W w' : World} {c : Md.Cn} {N1 N2 q1 q2 : Nat} {ta ta2 xa xa2 ba ba2 ra ra2 : Option Addr} {tc tc2 xc xc2 bc bc2 rc rc2 : Nat} (h : w'.cell? ⟨N1, 1, none⟩ = some (.slice (some ⟨q1, 0, none⟩) 1 1) ∧ w'.cell? ⟨N2, 1, none⟩ = some (.slice (some ⟨q2, 0, none⟩) 1 1) ∧ w'.cell? ⟨q1, 0, none⟩ = some (.int .i64 c.kind) ∧ w'.cell? ⟨q1, 1, none⟩ = some (.int .i64 c.op) ∧ w'.cell? ⟨q1, 2, none⟩ = some (.slice ta c.terms.length tc) ∧ w'.cell? ⟨q1, 3, none⟩ = some (.int .i64 c.k) ∧ w'.cell? ⟨q1, 4, none⟩ = some (.int .i64 c.v) ∧ w'.cell? ⟨q1, 5, none⟩ = some (.int .i64 c.x) ∧ w'.cell? ⟨q1, 6, none⟩ = some (.int .i64 c.y) ∧ w'.cell? ⟨q1, 7, none⟩ = some (.slice xa c.xs.length xc) ∧ w'.cell? ⟨q1, 8, none⟩ = some (.slice ba c.table.length bc) ∧ w'.cell? ⟨q1, 9, none⟩ = some (.slice ra c.rows.length rc) ∧ w'.cell? ⟨q2, 0, none⟩ = some (.int .i64 c.kind) ∧ w'.cell? ⟨q2, 1, none⟩ = some (.int .i64 c.op) ∧ w'.cell? ⟨q2, 2, none⟩ = some (.slice ta2 c.terms.length tc2) ∧ w'.cell? ⟨q2, 3, none⟩ = some (.int .i64 c.k) ∧ w'.cell? ⟨q2, 4, none⟩ = some (.int .i64 c.v) ∧ w'.cell? ⟨q2, 5, none⟩ = some (.int .i64 c.x) ∧ w'.cell? ⟨q2, 6, none⟩ = some (.int .i64 c.y) ∧ w'.cell? ⟨q2, 7, none⟩ = some (.slice xa2 c.xs.length xc2) ∧ w'.cell? ⟨q2, 8, none⟩ = some (.slice ba2 c.table.length bc2) ∧ w'.cell? ⟨q2, 9, none⟩ = some (.slice ra2 c.rows.length rc2) ∧ CnAt w' c (.slice ta c.terms.length tc) (.slice xa c.xs.length xc) (.slice ba c.table.length bc) (.slice ra c.rows.length rc) ∧ CnAt w' c (.slice ta2 c.terms.length tc2) (.slice xa2 c.xs.length xc2) (.slice ba2 c.table.length bc2) (.slice ra2 c.rows.length rc2) ∧ Below W.heap.size W w') : CnAt w' c (.slice ta c.terms.length tc) (.slice xa c.xs.length xc) (.slice ba c.table.length bc) (.slice ra c.rows.length rc) ∧ CnAt w' c (.slice ta2 c.terms.length tc2) (.slice xa2 c.xs.length xc2) (.slice ba2 c.table.length bc2) (.slice ra2 c.rows.length rc2) ∧ Below W.heap.size W w' := by
  obtain ⟨m1, m2, p0, p1, p2, p3, p4, p5, p6, p7, p8, p9, r0, r1, r2, r3, r4, r5, r6, r7, r8, r9, h⟩ := h
  exact h

set_option maxRecDepth 10000 in
set_option maxHeartbeats 2000000 in
theorem same1_any (q1 q2 : Nat) (c : Md.Cn) (vt vx vb vr vt2 vx2 vb2 vr2 : Value) (w : World) (hC : CnAt w c vt vx vb vr) (hC2 : CnAt w c vt2 vx2 vb2 vr2) (hq1 : w.heap[q1]? = some (.cells #[.int .i64 c.kind, .int .i64 c.op, vt, .int .i64 c.k, .int .i64 c.v, .int .i64 c.x, .int .i64 c.y, vx, vb, vr] 64)) (hq2 : w.heap[q2]? = some (.cells #[.int .i64 c.kind, .int .i64 c.op, vt2, .int .i64 c.k, .int .i64 c.v, .int .i64 c.x, .int .i64 c.y, vx2, vb2, vr2] 64)) :
    Calls Tryz.prog 10 #[.agg #[.slice none 0 0, .slice (some ⟨q1, 0, none⟩) 1 1, .bool false, .slice none 0 0], .agg #[.slice none 0 0, .slice (some ⟨q2, 0, none⟩) 1 1, .bool false, .slice none 0 0]] w fun e w' => e = .returned (.bool true) ∧ Below w.heap.size w w' := by
  obtain ⟨ta, tc, rfl, _⟩ := hC.t.form
  obtain ⟨xa, xc, rfl, _⟩ := hC.x.form
  obtain ⟨ba, bc, rfl, _⟩ := hC.b.form
  obtain ⟨ra, rc, rfl, _⟩ := hC.r.form
  obtain ⟨ta2, tc2, rfl, _⟩ := hC2.t.form
  obtain ⟨xa2, xc2, rfl, _⟩ := hC2.x.form
  obtain ⟨ba2, bc2, rfl, _⟩ := hC2.b.form
  obtain ⟨ra2, rc2, rfl, _⟩ := hC2.r.form
  have hl1 := (Array.getElem?_eq_some_iff.1 hq1).1
  have hl2 := (Array.getElem?_eq_some_iff.1 hq2).1
  obtain ⟨W, hW⟩ : ∃ W, (w.alloc (.cells #[.slice none 0 0, .slice (some ⟨q1, 0, none⟩) 1 1, .bool false, .slice none 0 0] 26)).alloc (.cells #[.slice none 0 0, .slice (some ⟨q2, 0, none⟩) 1 1, .bool false, .slice none 0 0] 26) = W := ⟨_, rfl⟩
  have hbW : Below w.heap.size w W := by rw [← hW]; exact ((Below.refl _ _).alloc (Nat.le_refl _) _).alloc (by simp) _
  have hN1 : W.heap[w.heap.size]? = some (.cells #[.slice none 0 0, .slice (some ⟨q1, 0, none⟩) 1 1, .bool false, .slice none 0 0] 26) := by rw [← hW, Below.heap_alloc _ _ _ (by simp)]; exact heap_alloc_new w _
  have hN2 : W.heap[w.heap.size + 1]? = some (.cells #[.slice none 0 0, .slice (some ⟨q2, 0, none⟩) 1 1, .bool false, .slice none 0 0] 26) := by
    rw [← hW]
    have := heap_alloc_new (w.alloc (.cells #[.slice none 0 0, .slice (some ⟨q1, 0, none⟩) 1 1, .bool false, .slice none 0 0] 26)) (.cells #[.slice none 0 0, .slice (some ⟨q2, 0, none⟩) 1 1, .bool false, .slice none 0 0] 26)
    simpa using this
  have hn1 := (Array.getElem?_eq_some_iff.1 hN1).1
  have hn2 := (Array.getElem?_eq_some_iff.1 hN2).1
  have HN : Hid (∀ w', Below W.heap.size W w' → (w'.cell? ⟨w.heap.size, 0, none⟩ = some (.slice none 0 0) ∧ w'.cell? ⟨w.heap.size, 1, none⟩ = some (.slice (some ⟨q1, 0, none⟩) 1 1) ∧ w'.cell? ⟨w.heap.size, 2, none⟩ = some (.bool false) ∧ w'.cell? ⟨w.heap.size, 3, none⟩ = some (.slice none 0 0)) ∧ w'.cell? ⟨w.heap.size + 1, 0, none⟩ = some (.slice none 0 0) ∧ w'.cell? ⟨w.heap.size + 1, 1, none⟩ = some (.slice (some ⟨q2, 0, none⟩) 1 1) ∧ w'.cell? ⟨w.heap.size + 1, 2, none⟩ = some (.bool false) ∧ w'.cell? ⟨w.heap.size + 1, 3, none⟩ = some (.slice none 0 0)) := fun w' hb => by
    have a1 := (hb.block _ hn1).trans hN1
    have a2 := (hb.block _ hn2).trans hN2
    simp [World.cell?, a1, a2]
  have HQ : Hid (∀ w', Below W.heap.size W w' → w'.heap[q1]? = some (.cells #[.int .i64 c.kind, .int .i64 c.op, .slice ta c.terms.length tc, .int .i64 c.k, .int .i64 c.v, .int .i64 c.x, .int .i64 c.y, .slice xa c.xs.length xc, .slice ba c.table.length bc, .slice ra c.rows.length rc] 64) ∧ w'.heap[q2]? = some (.cells #[.int .i64 c.kind, .int .i64 c.op, .slice ta2 c.terms.length tc2, .int .i64 c.k, .int .i64 c.v, .int .i64 c.x, .int .i64 c.y, .slice xa2 c.xs.length xc2, .slice ba2 c.table.length bc2, .slice ra2 c.rows.length rc2] 64)) := fun w' hb => ⟨(hb.block _ (Nat.lt_of_lt_of_le hl1 hbW.size)).trans ((hbW.block _ hl1).trans hq1), (hb.block _ (Nat.lt_of_lt_of_le hl2 hbW.size)).trans ((hbW.block _ hl2).trans hq2)⟩
  have HA : Hid (∀ w', Below W.heap.size W w' → CnAt w' c (.slice ta c.terms.length tc) (.slice xa c.xs.length xc) (.slice ba c.table.length bc) (.slice ra c.rows.length rc) ∧ CnAt w' c (.slice ta2 c.terms.length tc2) (.slice xa2 c.xs.length xc2) (.slice ba2 c.table.length bc2) (.slice ra2 c.rows.length rc2)) := fun w' hb => ⟨(hC.below hbW).below hb, (hC2.below hbW).below hb⟩
  have HB : Hid (Below w.heap.size w W) := hbW
  have HI : ∀ x, IntsAt x (.slice none 0 0) [] := fun x => ⟨none, 0, rfl, Nat.zero_le _, fun h => absurd h (by decide)⟩
  have HT : ∀ x, TermsAt x (.slice none 0 0) [] := fun x => ⟨none, 0, rfl, Nat.zero_le _, fun h => absurd h (by decide)⟩
  have H55 : Hid (Calls Tryz.prog 26 #[.slice none 0 0, .slice none 0 0] W fun e w' => e = .returned (.bool true) ∧ Below W.heap.size W w') := sameTerms_ref _ _ [] W (HT W) (HT W)
  clear HI HT hC hC2 hq1 hq2 hbW hN1 hN2
  obtain ⟨⟨m0, m1, m2, m3⟩, n0, n1, n2, n3⟩ := HN.out W (Below.refl _ _)
  go_enter Tryz.func10, Tryz.ntmps10
  go_wp2_with (go_at_call 26; refine calls_at H55.out (by with_reducible rfl) (by with_reducible rfl) ?_; rintro e w1 ⟨rfl, hb1⟩; have HW1 : Hid (Below W.heap.size W w1) := hb1; clear hb1 m0 m1 m2 m3 n0 n1 n2 n3; obtain ⟨⟨m0, m1, m2, m3⟩, n0, n1, n2, n3⟩ := HN.out _ HW1.out)
  go_loop [5] (fun iv => iv = .int .i64 0) (fun _ => 0)
  case atStart => rfl
  case round =>
    subst hrel
    go_wp2_with fail
    go_loopw [6] (fun iv wr => ∃ k : Nat, iv = .int .i64 (k : Int) ∧ Hid (Below W.heap.size W wr) ∧ Hid (k = 0 ∨ k = 1)) (fun iv _ => 1 - (intOf iv).toNat)
    case atStart => exact ⟨0, rfl, HW1, .inl rfl⟩
    case round =>
      obtain ⟨k, rfl, hG, hk01⟩ := hrel
      clear m0 m1 m2 m3 n0 n1 n2 n3
      obtain ⟨⟨m0, m1, m2, m3⟩, n0, n1, n2, n3⟩ := HN.out _ hG.out
      rcases hk01.out with rfl | rfl
      · obtain ⟨⟨p0, p1, p2, p3, p4, p5, p6, p7, p8, p9⟩, _⟩ := box10 (HQ.out _ hG.out).1
        obtain ⟨⟨r0, r1, r2, r3, r4, r5, r6, r7, r8, r9⟩, _⟩ := box10 (HQ.out _ hG.out).2
        rename World => wq
        have hS0 : Hid (wq.cell? ⟨w.heap.size, 1, none⟩ = some (.slice (some ⟨q1, 0, none⟩) 1 1) ∧ wq.cell? ⟨(w.heap.size + 1), 1, none⟩ = some (.slice (some ⟨q2, 0, none⟩) 1 1) ∧ wq.cell? ⟨q1, 0, none⟩ = some (.int .i64 c.kind) ∧ wq.cell? ⟨q1, 1, none⟩ = some (.int .i64 c.op) ∧ wq.cell? ⟨q1, 2, none⟩ = some (.slice ta c.terms.length tc) ∧ wq.cell? ⟨q1, 3, none⟩ = some (.int .i64 c.k) ∧ wq.cell? ⟨q1, 4, none⟩ = some (.int .i64 c.v) ∧ wq.cell? ⟨q1, 5, none⟩ = some (.int .i64 c.x) ∧ wq.cell? ⟨q1, 6, none⟩ = some (.int .i64 c.y) ∧ wq.cell? ⟨q1, 7, none⟩ = some (.slice xa c.xs.length xc) ∧ wq.cell? ⟨q1, 8, none⟩ = some (.slice ba c.table.length bc) ∧ wq.cell? ⟨q1, 9, none⟩ = some (.slice ra c.rows.length rc) ∧ wq.cell? ⟨q2, 0, none⟩ = some (.int .i64 c.kind) ∧ wq.cell? ⟨q2, 1, none⟩ = some (.int .i64 c.op) ∧ wq.cell? ⟨q2, 2, none⟩ = some (.slice ta2 c.terms.length tc2) ∧ wq.cell? ⟨q2, 3, none⟩ = some (.int .i64 c.k) ∧ wq.cell? ⟨q2, 4, none⟩ = some (.int .i64 c.v) ∧ wq.cell? ⟨q2, 5, none⟩ = some (.int .i64 c.x) ∧ wq.cell? ⟨q2, 6, none⟩ = some (.int .i64 c.y) ∧ wq.cell? ⟨q2, 7, none⟩ = some (.slice xa2 c.xs.length xc2) ∧ wq.cell? ⟨q2, 8, none⟩ = some (.slice ba2 c.table.length bc2) ∧ wq.cell? ⟨q2, 9, none⟩ = some (.slice ra2 c.rows.length rc2) ∧ CnAt wq c (.slice ta c.terms.length tc) (.slice xa c.xs.length xc) (.slice ba c.table.length bc) (.slice ra c.rows.length rc) ∧ CnAt wq c (.slice ta2 c.terms.length tc2) (.slice xa2 c.xs.length xc2) (.slice ba2 c.table.length bc2) (.slice ra2 c.rows.length rc2) ∧ Below W.heap.size W wq) := ⟨m1, n1, p0, p1, p2, p3, p4, p5, p6, p7, p8, p9, r0, r1, r2, r3, r4, r5, r6, r7, r8, r9, (HA.out _ hG.out).1, (HA.out _ hG.out).2, hG.out⟩
        go_wp2_with fail
        go_region_held3 (fun w' => w'.cell? ⟨w.heap.size, 1, none⟩ = some (.slice (some ⟨q1, 0, none⟩) 1 1) ∧ w'.cell? ⟨(w.heap.size + 1), 1, none⟩ = some (.slice (some ⟨q2, 0, none⟩) 1 1) ∧ w'.cell? ⟨q1, 0, none⟩ = some (.int .i64 c.kind) ∧ w'.cell? ⟨q1, 1, none⟩ = some (.int .i64 c.op) ∧ w'.cell? ⟨q1, 2, none⟩ = some (.slice ta c.terms.length tc) ∧ w'.cell? ⟨q1, 3, none⟩ = some (.int .i64 c.k) ∧ w'.cell? ⟨q1, 4, none⟩ = some (.int .i64 c.v) ∧ w'.cell? ⟨q1, 5, none⟩ = some (.int .i64 c.x) ∧ w'.cell? ⟨q1, 6, none⟩ = some (.int .i64 c.y) ∧ w'.cell? ⟨q1, 7, none⟩ = some (.slice xa c.xs.length xc) ∧ w'.cell? ⟨q1, 8, none⟩ = some (.slice ba c.table.length bc) ∧ w'.cell? ⟨q1, 9, none⟩ = some (.slice ra c.rows.length rc) ∧ w'.cell? ⟨q2, 0, none⟩ = some (.int .i64 c.kind) ∧ w'.cell? ⟨q2, 1, none⟩ = some (.int .i64 c.op) ∧ w'.cell? ⟨q2, 2, none⟩ = some (.slice ta2 c.terms.length tc2) ∧ w'.cell? ⟨q2, 3, none⟩ = some (.int .i64 c.k) ∧ w'.cell? ⟨q2, 4, none⟩ = some (.int .i64 c.v) ∧ w'.cell? ⟨q2, 5, none⟩ = some (.int .i64 c.x) ∧ w'.cell? ⟨q2, 6, none⟩ = some (.int .i64 c.y) ∧ w'.cell? ⟨q2, 7, none⟩ = some (.slice xa2 c.xs.length xc2) ∧ w'.cell? ⟨q2, 8, none⟩ = some (.slice ba2 c.table.length bc2) ∧ w'.cell? ⟨q2, 9, none⟩ = some (.slice ra2 c.rows.length rc2) ∧ CnAt w' c (.slice ta c.terms.length tc) (.slice xa c.xs.length xc) (.slice ba c.table.length bc) (.slice ra c.rows.length rc) ∧ CnAt w' c (.slice ta2 c.terms.length tc2) (.slice xa2 c.xs.length xc2) (.slice ba2 c.table.length bc2) (.slice ra2 c.rows.length rc2) ∧ Below W.heap.size W w')
          (first | exact Sm.next hS0.out (Below.refl _ _).drew | exact Sm.next (by assumption) (by assumption) | assumption)
          (first | (go_at_call 27; refine (sameCon_ref c _ _ _ _ _ _ _ _ _ (Sm.cns (by assumption)).1 (Sm.cns (by assumption)).2.1).mono ?_; rintro e w' ⟨rfl, hb⟩))
        rename_i hHeld
        have hfin : Hid (Below W.heap.size W _) := (Sm.cns hHeld).2.2
        clear hHeld
        go_wp2
        go_roundw
        case rel => exact ⟨1, by go_num, hfin, .inr rfl⟩
        case measure => simp [intOf]
      · go_wp2_with fail
        go_ret
        exact ⟨rfl, HB.out.trans (hG.out.mono HB.out.size)⟩

end Go.Proofs.YtjanpglnahagdaaGreatDoor
