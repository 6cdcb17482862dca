/-
  A line that is read: operators, bounds, terms.
-/
import Derived.Test.YthohnmplbjhjaaaGreatDoorJ26
namespace Go.Proofs.YthohnmplbjhjaaaGreatDoor
open Go Go.RowKit

set_option maxRecDepth 10000 in
set_option maxHeartbeats 2000000 in
theorem op_read {w0 : World} {V : List Md.Vr} {va : Value} {b : Nat} {s : St} (w : World) (h : Ln w0 V va b s w) : Calls Tryz.prog 80 #[.pointer (some ⟨b, 0, none⟩)] w (RO w0 V va b (.int .i64 (rdOp s).1) (rdOp s).2 w) := by
  have HN : Hid (Calls Tryz.prog 124 #[.pointer (some ⟨b, 0, none⟩)] w (RO w0 V va b (.string (txtOf (nextT s).1)) (nextT s).2 w)) := next_any w h
  obtain ⟨x, hx⟩ : ∃ x, (nextT s).1 = x := ⟨_, rfl⟩
  obtain ⟨t, ht⟩ : ∃ t, (nextT s).2 = t := ⟨_, rfl⟩
  rw [hx, ht] at HN
  have HD : Hid ((rdOp s).1 = opS x ∧ (rdOp s).2 = if opS x = 0 then failT 51 t else t) := by show _ ∧ _; unfold rdOp; rw [hx, ht]; exact ⟨rfl, rfl⟩
  obtain ⟨R, hR⟩ : ∃ R, rdOp s = R := ⟨_, rfl⟩
  rw [hR] at HD ⊢
  clear hR
  have q1 := txt_eq x [60, 61]
  have q2 := txt_eq x [61]
  have q3 := txt_eq x [62, 61]
  have HF : Hid (∀ w', Ln w0 V va b t w' → Calls Tryz.prog 109 #[.pointer (some ⟨b, 0, none⟩), .int .i64 51] w' (RO w0 V va b (.tuple #[]) (failT 51 t) w')) := fun w' h' => fail_any 51 w' h'
  obtain ⟨X, hX⟩ : ∃ X, txtOf x = X := ⟨_, rfl⟩
  rw [hX] at HN q1 q2 q3
  clear h hx ht hX
  have HQ : Hid ((X.toList == [60, 61]) = decide (x = [60, 61]) ∧ (X.toList == [61]) = decide (x = [61]) ∧ (X.toList == [62, 61]) = decide (x = [62, 61])) := ⟨q1, q2, q3⟩
  clear q1 q2 q3
  go_enter Tryz.func80, Tryz.ntmps80
  go_wp2_with fail
  refine calls_at HN.out (by with_reducible rfl) (by with_reducible rfl) ?_
  rintro e w1 ⟨rfl, h1, o1⟩
  have HL1 : Hid (Ln w0 V va b t w1) := h1
  have HO1 : Hid (Ofw (fun k => k = b) w w1) := o1
  have g1 := h1.way.opw1
  have g2 := h1.way.opw2
  have g3 := h1.way.opw3
  clear h1 o1
  go_wp2_with fail
  go_loopw [4] (fun ov wr => ∃ k : Int, ov = .int .i64 k ∧ 1 ≤ k ∧ k ≤ 4 ∧ Hid ((1 < k → x ≠ [60, 61]) ∧ (2 < k → x ≠ [61]) ∧ (3 < k → x ≠ [62, 61])) ∧ w1 = wr) (fun ov _ => (4 - intOf ov).toNat)
  case atStart => exact ⟨1, rfl, by omega, by omega, ⟨fun h => by omega, fun h => by omega, fun h => by omega⟩, rfl⟩
  case round =>
    obtain ⟨k, rfl, hk1, hk4, hA, rfl⟩ := hrel
    obtain ⟨p1, p2, p3⟩ := HQ.out
    rcases (by omega : k = 1 ∨ k = 2 ∨ k = 3 ∨ k = 4) with rfl | rfl | rfl | rfl
    · clear p2 p3 hk1 hk4
      by_cases hx : x = [60, 61]
      · rw [decide_eq_true hx] at p1
        have HR : Hid (opS x = 1) := by show _ = _; unfold opS; rw [if_pos hx]
        clear hx
        go_wp2_with fail
        go_ret
        refine ⟨ret_int (HR.out.symm.trans HD.out.1.symm), ?_, HO1.out⟩
        rw [HD.out.2, HR.out, if_neg (by decide)]
        exact HL1.out
      · rw [decide_eq_false hx] at p1
        have HX : Hid (x ≠ [60, 61]) := hx
        clear hx
        go_wp2_with fail
        go_roundw
        case rel => exact ⟨2, rfl, by omega, by omega, ⟨fun _ => HX.out, fun h => by omega, fun h => by omega⟩, by first | rfl | trivial⟩
        case measure => simp [intOf]
    · clear p1 p3 hk1 hk4
      by_cases hx : x = [61]
      · rw [decide_eq_true hx] at p2
        have HR : Hid (opS x = 2) := by show _ = _; unfold opS; rw [if_neg (hA.out.1 (by omega)), if_pos hx]
        clear hx
        go_wp2_with fail
        go_ret
        refine ⟨ret_int (HR.out.symm.trans HD.out.1.symm), ?_, HO1.out⟩
        rw [HD.out.2, HR.out, if_neg (by decide)]
        exact HL1.out
      · rw [decide_eq_false hx] at p2
        have HX : Hid (x ≠ [61]) := hx
        clear hx
        go_wp2_with fail
        go_roundw
        case rel => exact ⟨3, rfl, by omega, by omega, ⟨fun _ => hA.out.1 (by omega), fun _ => HX.out, fun h => by omega⟩, by first | rfl | trivial⟩
        case measure => simp [intOf]
    · clear p1 p2 hk1 hk4
      by_cases hx : x = [62, 61]
      · rw [decide_eq_true hx] at p3
        have HR : Hid (opS x = 3) := by show _ = _; unfold opS; rw [if_neg (hA.out.1 (by omega)), if_neg (hA.out.2.1 (by omega)), if_pos hx]
        clear hx
        go_wp2_with fail
        go_ret
        refine ⟨ret_int (HR.out.symm.trans HD.out.1.symm), ?_, HO1.out⟩
        rw [HD.out.2, HR.out, if_neg (by decide)]
        exact HL1.out
      · rw [decide_eq_false hx] at p3
        have HX : Hid (x ≠ [62, 61]) := hx
        clear hx
        go_wp2_with fail
        go_roundw
        case rel => exact ⟨4, rfl, by omega, by omega, ⟨fun _ => hA.out.1 (by omega), fun _ => hA.out.2.1 (by omega), fun _ => HX.out⟩, by first | rfl | trivial⟩
        case measure => simp [intOf]
    · have HR : Hid (opS x = 0) := by show _ = _; unfold opS; rw [if_neg (hA.out.1 (by omega)), if_neg (hA.out.2.1 (by omega)), if_neg (hA.out.2.2 (by omega))]
      clear p1 p2 p3 hk1 hk4
      go_wp2_with fail
      refine calls_at (HF.out _ HL1.out) (by with_reducible rfl) (by with_reducible rfl) ?_
      rintro e w2 ⟨rfl, h2, o2⟩
      go_wp2_with fail
      go_ret
      refine ⟨ret_int (HR.out.symm.trans HD.out.1.symm), ?_, HO1.out.trans o2⟩
      rw [HD.out.2, HR.out, if_pos rfl]
      exact h2

theorem right_x (lo hi : Int) : rightV ⟨⟨#[120]⟩, lo, hi⟩ = Md.boundsB lo hi := by
  unfold rightV
  have : Md.nameB (⟨#[120]⟩ : ByteArray).data.toList = true := by decide
  show (Md.nameB (⟨#[120]⟩ : ByteArray).data.toList && Md.boundsB lo hi) = _
  rw [this]; rfl
set_option maxHeartbeats 2000000 in
theorem bounds_read {w0 : World} {V : List Md.Vr} {va : Value} {b : Nat} {s : St} (w : World) (h : Ln w0 V va b s w) : Calls Tryz.prog 127 #[.pointer (some ⟨b, 0, none⟩)] w (RO w0 V va b (.tuple #[.int .i64 (rdBounds s).1.1, .int .i64 (rdBounds s).1.2]) (rdBounds s).2 w) := by
  have HN : Hid (∀ t w', Ln w0 V va b t w' → Calls Tryz.prog 124 #[.pointer (some ⟨b, 0, none⟩)] w' (RO w0 V va b (.string (txtOf (nextT t).1)) (nextT t).2 w')) := fun t w' h' => next_any w' h'
  have HV : Hid (∀ t w', t.1.length ≤ 70000 → Ln w0 V va b (nextT t).2 w' → Calls Tryz.prog 167 #[.pointer (some ⟨b, 0, none⟩), .string (txtOf (nextT t).1)] w' (RO w0 V va b (.int .i64 (rdWhole (nextT t).1 (nextT t).2).1) (rdWhole (nextT t).1 (nextT t).2).2 w')) := fun t w' hl h' => whole_any _ w' h' (next_word hl).1
  have HR : Hid (∀ lo hi w', Calls Tryz.prog 168 #[.agg #[.string ⟨#[120]⟩, .int .i64 lo, .int .i64 hi]] w' fun e w2 => e = .returned (.bool (Md.boundsB lo hi)) ∧ Below w'.heap.size w' w2) := fun lo hi w' => by
    have := isRight_any ⟨⟨#[120]⟩, lo, hi⟩ w' (by show (1 : Nat) ≤ maxLen; unfold maxLen; omega)
    rw [right_x] at this
    exact this
  have HF : Hid (∀ (t : St) w', Ln w0 V va b t w' → Calls Tryz.prog 109 #[.pointer (some ⟨b, 0, none⟩), .int .i64 42] w' (RO w0 V va b (.tuple #[]) (failT 42 t) w')) := fun t w' h' => fail_any 42 w' h'
  have HL : Hid (Ln w0 V va b s w) := h
  obtain ⟨n1, e1⟩ : ∃ n, (rdWhole (nextT s).1 (nextT s).2).1 = n := ⟨_, rfl⟩
  have HA : Hid ((rdLo s).1 = n1 ∧ (rdLo s).2 = if Md.boundsB n1 n1 = true then (rdWhole (nextT s).1 (nextT s).2).2 else failT 42 (rdWhole (nextT s).1 (nextT s).2).2) := by
    refine ⟨e1, ?_⟩
    unfold rdLo
    simp only [e1]
  obtain ⟨u, eu⟩ : ∃ u, (rdLo s).2 = u := ⟨_, rfl⟩
  obtain ⟨n2, e2⟩ : ∃ n, (rdWhole (nextT u).1 (nextT u).2).1 = n := ⟨_, rfl⟩
  have HB : Hid (rdBounds s = ((n1, n2), if Md.boundsB n1 n2 = true then (rdWhole (nextT u).1 (nextT u).2).2 else failT 42 (rdWhole (nextT u).1 (nextT u).2).2)) := by
    show _ = _
    unfold rdBounds rdHi
    rw [HA.out.1, eu]
    simp only [e2]
  have HU : Hid (u = if Md.boundsB n1 n1 = true then (rdWhole (nextT s).1 (nextT s).2).2 else failT 42 (rdWhole (nextT s).1 (nextT s).2).2) := eu.symm.trans HA.out.2
  have HE1 : Hid ((rdWhole (nextT s).1 (nextT s).2).1 = n1) := e1
  have HE2 : Hid ((rdWhole (nextT u).1 (nextT u).2).1 = n2) := e2
  clear h e1 e2 eu HA
  cases hb1 : Md.boundsB n1 n1 <;> cases hb2 : Md.boundsB n1 n2
  · rw [hb1] at HU
    rw [hb2] at HB
    rw [if_neg (by decide)] at HU
    rw [if_neg (by decide)] at HB
    have HR1 : Hid (∀ w', Calls Tryz.prog 168 #[.agg #[.string ⟨#[120]⟩, .int .i64 n1, .int .i64 n1]] w' fun e w2 => e = .returned (.bool false) ∧ Below w'.heap.size w' w2) := fun w' => by
      have := HR.out n1 n1 w'
      rw [hb1] at this
      exact this
    have HR2 : Hid (∀ w', Calls Tryz.prog 168 #[.agg #[.string ⟨#[120]⟩, .int .i64 n1, .int .i64 n2]] w' fun e w2 => e = .returned (.bool false) ∧ Below w'.heap.size w' w2) := fun w' => by
      have := HR.out n1 n2 w'
      rw [hb2] at this
      exact this
    clear hb1 hb2 HR
    rw [HB.out]
    go_enter Tryz.func127, Tryz.ntmps127
    go_wp2_with fail
    refine calls_at (HN.out s w HL.out) (by with_reducible rfl) (by with_reducible rfl) ?_
    rintro e w1 ⟨rfl, h1, o1⟩
    have H1 : Hid (Ln w0 V va b (nextT s).2 w1 ∧ Ofw (fun k => k = b) w w1) := ⟨h1, o1⟩
    clear h1 o1
    go_wp2_with fail
    refine calls_at (HV.out s w1 HL.out.n H1.out.1) (by with_reducible rfl) (by with_reducible rfl) ?_
    rintro e w2 ⟨he, h2, o2⟩
    rw [HE1.out] at he
    subst he
    have H2 : Hid (Ln w0 V va b (rdWhole (nextT s).1 (nextT s).2).2 w2 ∧ Ofw (fun k => k = b) w w2) := ⟨h2, H1.out.2.trans o2⟩
    clear h2 o2
    go_wp2_with fail
    refine calls_at (HR1.out w2) (by with_reducible rfl) (by with_reducible rfl) ?_
    rintro e w3 ⟨rfl, hb3⟩
    have H3 : Hid (Ln w0 V va b (rdWhole (nextT s).1 (nextT s).2).2 w3 ∧ Ofw (fun k => k = b) w w3) := ⟨H2.out.1.below hb3, H2.out.2.trans (Ofw.of_below hb3)⟩
    clear hb3
    go_wp2_with fail
    refine calls_at (HF.out _ w3 H3.out.1) (by with_reducible rfl) (by with_reducible rfl) ?_
    rintro e w4 ⟨rfl, h4, o4⟩
    have H4 : Hid (Ln w0 V va b u w4 ∧ Ofw (fun k => k = b) w w4) := ⟨by rw [HU.out]; exact h4, H3.out.2.trans o4⟩
    clear h4 o4
    go_wp2_with fail
    refine calls_at (HN.out u w4 H4.out.1) (by with_reducible rfl) (by with_reducible rfl) ?_
    rintro e w5 ⟨rfl, h5, o5⟩
    have H5 : Hid (Ln w0 V va b (nextT u).2 w5 ∧ Ofw (fun k => k = b) w w5) := ⟨h5, H4.out.2.trans o5⟩
    clear h5 o5
    go_wp2_with fail
    refine calls_at (HV.out u w5 H4.out.1.n H5.out.1) (by with_reducible rfl) (by with_reducible rfl) ?_
    rintro e w6 ⟨he, h6, o6⟩
    rw [HE2.out] at he
    subst he
    have H6 : Hid (Ln w0 V va b (rdWhole (nextT u).1 (nextT u).2).2 w6 ∧ Ofw (fun k => k = b) w w6) := ⟨h6, H5.out.2.trans o6⟩
    clear h6 o6
    go_wp2_with fail
    refine calls_at (HR2.out w6) (by with_reducible rfl) (by with_reducible rfl) ?_
    rintro e w7 ⟨rfl, hb7⟩
    have H7 : Hid (Ln w0 V va b (rdWhole (nextT u).1 (nextT u).2).2 w7 ∧ Ofw (fun k => k = b) w w7) := ⟨H6.out.1.below hb7, H6.out.2.trans (Ofw.of_below hb7)⟩
    clear hb7
    go_wp2_with fail
    refine calls_at (HF.out _ w7 H7.out.1) (by with_reducible rfl) (by with_reducible rfl) ?_
    rintro e w8 ⟨rfl, h8, o8⟩
    go_wp2_with fail
    go_ret2
    exact ⟨rfl, h8, H7.out.2.trans o8⟩
  · rw [hb1] at HU
    rw [hb2] at HB
    rw [if_neg (by decide)] at HU
    rw [if_pos rfl] at HB
    have HR1 : Hid (∀ w', Calls Tryz.prog 168 #[.agg #[.string ⟨#[120]⟩, .int .i64 n1, .int .i64 n1]] w' fun e w2 => e = .returned (.bool false) ∧ Below w'.heap.size w' w2) := fun w' => by
      have := HR.out n1 n1 w'
      rw [hb1] at this
      exact this
    have HR2 : Hid (∀ w', Calls Tryz.prog 168 #[.agg #[.string ⟨#[120]⟩, .int .i64 n1, .int .i64 n2]] w' fun e w2 => e = .returned (.bool true) ∧ Below w'.heap.size w' w2) := fun w' => by
      have := HR.out n1 n2 w'
      rw [hb2] at this
      exact this
    clear hb1 hb2 HR
    rw [HB.out]
    go_enter Tryz.func127, Tryz.ntmps127
    go_wp2_with fail
    refine calls_at (HN.out s w HL.out) (by with_reducible rfl) (by with_reducible rfl) ?_
    rintro e w1 ⟨rfl, h1, o1⟩
    have H1 : Hid (Ln w0 V va b (nextT s).2 w1 ∧ Ofw (fun k => k = b) w w1) := ⟨h1, o1⟩
    clear h1 o1
    go_wp2_with fail
    refine calls_at (HV.out s w1 HL.out.n H1.out.1) (by with_reducible rfl) (by with_reducible rfl) ?_
    rintro e w2 ⟨he, h2, o2⟩
    rw [HE1.out] at he
    subst he
    have H2 : Hid (Ln w0 V va b (rdWhole (nextT s).1 (nextT s).2).2 w2 ∧ Ofw (fun k => k = b) w w2) := ⟨h2, H1.out.2.trans o2⟩
    clear h2 o2
    go_wp2_with fail
    refine calls_at (HR1.out w2) (by with_reducible rfl) (by with_reducible rfl) ?_
    rintro e w3 ⟨rfl, hb3⟩
    have H3 : Hid (Ln w0 V va b (rdWhole (nextT s).1 (nextT s).2).2 w3 ∧ Ofw (fun k => k = b) w w3) := ⟨H2.out.1.below hb3, H2.out.2.trans (Ofw.of_below hb3)⟩
    clear hb3
    go_wp2_with fail
    refine calls_at (HF.out _ w3 H3.out.1) (by with_reducible rfl) (by with_reducible rfl) ?_
    rintro e w4 ⟨rfl, h4, o4⟩
    have H4 : Hid (Ln w0 V va b u w4 ∧ Ofw (fun k => k = b) w w4) := ⟨by rw [HU.out]; exact h4, H3.out.2.trans o4⟩
    clear h4 o4
    go_wp2_with fail
    refine calls_at (HN.out u w4 H4.out.1) (by with_reducible rfl) (by with_reducible rfl) ?_
    rintro e w5 ⟨rfl, h5, o5⟩
    have H5 : Hid (Ln w0 V va b (nextT u).2 w5 ∧ Ofw (fun k => k = b) w w5) := ⟨h5, H4.out.2.trans o5⟩
    clear h5 o5
    go_wp2_with fail
    refine calls_at (HV.out u w5 H4.out.1.n H5.out.1) (by with_reducible rfl) (by with_reducible rfl) ?_
    rintro e w6 ⟨he, h6, o6⟩
    rw [HE2.out] at he
    subst he
    have H6 : Hid (Ln w0 V va b (rdWhole (nextT u).1 (nextT u).2).2 w6 ∧ Ofw (fun k => k = b) w w6) := ⟨h6, H5.out.2.trans o6⟩
    clear h6 o6
    go_wp2_with fail
    refine calls_at (HR2.out w6) (by with_reducible rfl) (by with_reducible rfl) ?_
    rintro e w7 ⟨rfl, hb7⟩
    have H7 : Hid (Ln w0 V va b (rdWhole (nextT u).1 (nextT u).2).2 w7 ∧ Ofw (fun k => k = b) w w7) := ⟨H6.out.1.below hb7, H6.out.2.trans (Ofw.of_below hb7)⟩
    clear hb7
    go_wp2_with fail
    go_ret2
    exact ⟨rfl, H7.out.1, H7.out.2⟩
  · rw [hb1] at HU
    rw [hb2] at HB
    rw [if_pos rfl] at HU
    rw [if_neg (by decide)] at HB
    have HR1 : Hid (∀ w', Calls Tryz.prog 168 #[.agg #[.string ⟨#[120]⟩, .int .i64 n1, .int .i64 n1]] w' fun e w2 => e = .returned (.bool true) ∧ Below w'.heap.size w' w2) := fun w' => by
      have := HR.out n1 n1 w'
      rw [hb1] at this
      exact this
    have HR2 : Hid (∀ w', Calls Tryz.prog 168 #[.agg #[.string ⟨#[120]⟩, .int .i64 n1, .int .i64 n2]] w' fun e w2 => e = .returned (.bool false) ∧ Below w'.heap.size w' w2) := fun w' => by
      have := HR.out n1 n2 w'
      rw [hb2] at this
      exact this
    clear hb1 hb2 HR
    rw [HB.out]
    go_enter Tryz.func127, Tryz.ntmps127
    go_wp2_with fail
    refine calls_at (HN.out s w HL.out) (by with_reducible rfl) (by with_reducible rfl) ?_
    rintro e w1 ⟨rfl, h1, o1⟩
    have H1 : Hid (Ln w0 V va b (nextT s).2 w1 ∧ Ofw (fun k => k = b) w w1) := ⟨h1, o1⟩
    clear h1 o1
    go_wp2_with fail
    refine calls_at (HV.out s w1 HL.out.n H1.out.1) (by with_reducible rfl) (by with_reducible rfl) ?_
    rintro e w2 ⟨he, h2, o2⟩
    rw [HE1.out] at he
    subst he
    have H2 : Hid (Ln w0 V va b (rdWhole (nextT s).1 (nextT s).2).2 w2 ∧ Ofw (fun k => k = b) w w2) := ⟨h2, H1.out.2.trans o2⟩
    clear h2 o2
    go_wp2_with fail
    refine calls_at (HR1.out w2) (by with_reducible rfl) (by with_reducible rfl) ?_
    rintro e w3 ⟨rfl, hb3⟩
    have H3 : Hid (Ln w0 V va b (rdWhole (nextT s).1 (nextT s).2).2 w3 ∧ Ofw (fun k => k = b) w w3) := ⟨H2.out.1.below hb3, H2.out.2.trans (Ofw.of_below hb3)⟩
    clear hb3
    go_wp2_with fail
    have H4 : Hid (Ln w0 V va b u w3 ∧ Ofw (fun k => k = b) w w3) := ⟨by rw [HU.out]; exact H3.out.1, H3.out.2⟩
    refine calls_at (HN.out u w3 H4.out.1) (by with_reducible rfl) (by with_reducible rfl) ?_
    rintro e w5 ⟨rfl, h5, o5⟩
    have H5 : Hid (Ln w0 V va b (nextT u).2 w5 ∧ Ofw (fun k => k = b) w w5) := ⟨h5, H4.out.2.trans o5⟩
    clear h5 o5
    go_wp2_with fail
    refine calls_at (HV.out u w5 H4.out.1.n H5.out.1) (by with_reducible rfl) (by with_reducible rfl) ?_
    rintro e w6 ⟨he, h6, o6⟩
    rw [HE2.out] at he
    subst he
    have H6 : Hid (Ln w0 V va b (rdWhole (nextT u).1 (nextT u).2).2 w6 ∧ Ofw (fun k => k = b) w w6) := ⟨h6, H5.out.2.trans o6⟩
    clear h6 o6
    go_wp2_with fail
    refine calls_at (HR2.out w6) (by with_reducible rfl) (by with_reducible rfl) ?_
    rintro e w7 ⟨rfl, hb7⟩
    have H7 : Hid (Ln w0 V va b (rdWhole (nextT u).1 (nextT u).2).2 w7 ∧ Ofw (fun k => k = b) w w7) := ⟨H6.out.1.below hb7, H6.out.2.trans (Ofw.of_below hb7)⟩
    clear hb7
    go_wp2_with fail
    refine calls_at (HF.out _ w7 H7.out.1) (by with_reducible rfl) (by with_reducible rfl) ?_
    rintro e w8 ⟨rfl, h8, o8⟩
    go_wp2_with fail
    go_ret2
    exact ⟨rfl, h8, H7.out.2.trans o8⟩
  · rw [hb1] at HU
    rw [hb2] at HB
    rw [if_pos rfl] at HU
    rw [if_pos rfl] at HB
    have HR1 : Hid (∀ w', Calls Tryz.prog 168 #[.agg #[.string ⟨#[120]⟩, .int .i64 n1, .int .i64 n1]] w' fun e w2 => e = .returned (.bool true) ∧ Below w'.heap.size w' w2) := fun w' => by
      have := HR.out n1 n1 w'
      rw [hb1] at this
      exact this
    have HR2 : Hid (∀ w', Calls Tryz.prog 168 #[.agg #[.string ⟨#[120]⟩, .int .i64 n1, .int .i64 n2]] w' fun e w2 => e = .returned (.bool true) ∧ Below w'.heap.size w' w2) := fun w' => by
      have := HR.out n1 n2 w'
      rw [hb2] at this
      exact this
    clear hb1 hb2 HR
    rw [HB.out]
    go_enter Tryz.func127, Tryz.ntmps127
    go_wp2_with fail
    refine calls_at (HN.out s w HL.out) (by with_reducible rfl) (by with_reducible rfl) ?_
    rintro e w1 ⟨rfl, h1, o1⟩
    have H1 : Hid (Ln w0 V va b (nextT s).2 w1 ∧ Ofw (fun k => k = b) w w1) := ⟨h1, o1⟩
    clear h1 o1
    go_wp2_with fail
    refine calls_at (HV.out s w1 HL.out.n H1.out.1) (by with_reducible rfl) (by with_reducible rfl) ?_
    rintro e w2 ⟨he, h2, o2⟩
    rw [HE1.out] at he
    subst he
    have H2 : Hid (Ln w0 V va b (rdWhole (nextT s).1 (nextT s).2).2 w2 ∧ Ofw (fun k => k = b) w w2) := ⟨h2, H1.out.2.trans o2⟩
    clear h2 o2
    go_wp2_with fail
    refine calls_at (HR1.out w2) (by with_reducible rfl) (by with_reducible rfl) ?_
    rintro e w3 ⟨rfl, hb3⟩
    have H3 : Hid (Ln w0 V va b (rdWhole (nextT s).1 (nextT s).2).2 w3 ∧ Ofw (fun k => k = b) w w3) := ⟨H2.out.1.below hb3, H2.out.2.trans (Ofw.of_below hb3)⟩
    clear hb3
    go_wp2_with fail
    have H4 : Hid (Ln w0 V va b u w3 ∧ Ofw (fun k => k = b) w w3) := ⟨by rw [HU.out]; exact H3.out.1, H3.out.2⟩
    refine calls_at (HN.out u w3 H4.out.1) (by with_reducible rfl) (by with_reducible rfl) ?_
    rintro e w5 ⟨rfl, h5, o5⟩
    have H5 : Hid (Ln w0 V va b (nextT u).2 w5 ∧ Ofw (fun k => k = b) w w5) := ⟨h5, H4.out.2.trans o5⟩
    clear h5 o5
    go_wp2_with fail
    refine calls_at (HV.out u w5 H4.out.1.n H5.out.1) (by with_reducible rfl) (by with_reducible rfl) ?_
    rintro e w6 ⟨he, h6, o6⟩
    rw [HE2.out] at he
    subst he
    have H6 : Hid (Ln w0 V va b (rdWhole (nextT u).1 (nextT u).2).2 w6 ∧ Ofw (fun k => k = b) w w6) := ⟨h6, H5.out.2.trans o6⟩
    clear h6 o6
    go_wp2_with fail
    refine calls_at (HR2.out w6) (by with_reducible rfl) (by with_reducible rfl) ?_
    rintro e w7 ⟨rfl, hb7⟩
    have H7 : Hid (Ln w0 V va b (rdWhole (nextT u).1 (nextT u).2).2 w7 ∧ Ofw (fun k => k = b) w w7) := ⟨H6.out.1.below hb7, H6.out.2.trans (Ofw.of_below hb7)⟩
    clear hb7
    go_wp2_with fail
    go_ret2
    exact ⟨rfl, H7.out.1, H7.out.2⟩

set_option maxHeartbeats 2000000 in
theorem term_read {w0 : World} {V : List Md.Vr} {va : Value} {b : Nat} {s : St} (x : List UInt8) (w : World) (h : Ln w0 V va b s w) (hx : x.length ≤ 70000) : Calls Tryz.prog 132 #[.pointer (some ⟨b, 0, none⟩), .string (txtOf x)] w (RO w0 V va b (.agg #[.int .i64 (rdTerm V x s).1.1, .int .i64 (rdTerm V x s).1.2]) (rdTerm V x s).2 w) := by
  obtain ⟨W1, hW1⟩ : ∃ W1, w.alloc (.cells #[.int .i64 0, .int .i64 0] 87) = W1 := ⟨_, rfl⟩
  have hb1 : Below w.heap.size w W1 := hW1 ▸ (Below.refl _ _).alloc (Nat.le_refl _) _
  have hl1 : W1.heap[w.heap.size]? = some (.cells #[.int .i64 0, .int .i64 0] 87) := by rw [← hW1]; exact heap_alloc_new w _
  have HW : Hid (Calls Tryz.prog 167 #[.pointer (some ⟨b, 0, none⟩), .string (txtOf x)] W1 (RO w0 V va b (.int .i64 (rdWhole x s).1) (rdWhole x s).2 W1)) := whole_any x W1 (h.below hb1) hx
  have HF : Hid (∀ (t : St) w', Ln w0 V va b t w' → Calls Tryz.prog 109 #[.pointer (some ⟨b, 0, none⟩), .int .i64 45] w' (RO w0 V va b (.tuple #[]) (failT 45 t) w')) := fun t w' h' => fail_any 45 w' h'
  have HN : Hid (∀ (t : St) w', Ln w0 V va b t w' → Calls Tryz.prog 71 #[.pointer (some ⟨b, 0, none⟩)] w' (RO w0 V va b (.int .i64 (nameT V t).1) (nameT V t).2 w')) := fun t w' h' => name_any w' h'
  have hlt := h.lt
  have hbg := h.big
  have fin : Hid (∀ (t : St) w2, Ln w0 V va b t w2 → Ofw (fun k => k = b) w w2 → Ln w0 V va b t w2 ∧ Ofw (fun k => k = b) w w2) := fun t w2 a c => ⟨a, c⟩
  clear fin
  have HH : Hid (∀ w2, Ofw (fun k => k = b) W1 w2 → w2.heap[w.heap.size]? = some (.cells #[.int .i64 0, .int .i64 0] 87)) := fun w2 ho2 => (ho2.block _ (Array.getElem?_eq_some_iff.1 hl1).1 (by omega)).trans hl1
  have HO0 : Hid (Ofw (fun k => k = b) w W1) := Ofw.of_below hb1
  obtain ⟨n, hn⟩ : ∃ n, (rdWhole x s).1 = n := ⟨_, rfl⟩
  obtain ⟨t, ht⟩ : ∃ t, (rdWhole x s).2 = t := ⟨_, rfl⟩
  rw [hn, ht] at HW
  have HD : Hid (rdTerm V x s = ((n, (nameT V (cfT n t)).1), (nameT V (cfT n t)).2)) := by show _ = _; unfold rdTerm; rw [hn, ht]
  obtain ⟨u, hu⟩ : ∃ u, cfT n t = u := ⟨_, rfl⟩
  have HU : Hid (u = if n = 0 ∨ n < -1000000 ∨ 1000000 < n then failT 45 t else t) := hu.symm
  rw [hu] at HD
  rw [HD.out]
  clear h hn ht hu hb1 hl1
  have key : ∀ (a c d : Bool), (n == 0) = a → decide (n < -1000000) = c → decide (1000000 < n) = d → Calls Tryz.prog 132 #[.pointer (some ⟨b, 0, none⟩), .string (txtOf x)] w (RO w0 V va b (.agg #[.int .i64 n, .int .i64 (nameT V u).1]) (nameT V u).2 w) := by
    intro a c d ha hc hd
    have HU2 : Hid (u = if (a || c || d) = true then failT 45 t else t) := by
      show u = _
      rw [HU.out, ← ha, ← hc, ← hd]
      simp only [Bool.or_eq_true, beq_iff_eq, decide_eq_true_eq, or_assoc]
    clear HU
    obtain ⟨X, hX⟩ : ∃ X, txtOf x = X := ⟨_, rfl⟩
    rw [hX] at HW ⊢
    clear hX
    cases a <;> cases c <;> cases d
    all_goals
      simp only [Bool.or_false, Bool.or_true, Bool.false_eq_true, if_true, if_false] at HU2
      go_enter Tryz.func132, Tryz.ntmps132
      go_wp2_with fail
      refine calls_at HW.out (by with_reducible rfl) (by with_reducible rfl) ?_
      rintro e w2 ⟨rfl, h2, o2⟩
      have H2 : Hid (Ln w0 V va b t w2 ∧ Ofw (fun k => k = b) W1 w2) := ⟨h2, o2⟩
      clear h2 o2
      go_wp2_with fail
      first
        | (refine calls_at (HF.out t w2 H2.out.1) (by with_reducible rfl) (by with_reducible rfl) ?_
           rintro e w3 ⟨rfl, h3, o3⟩
           have H3 : Hid (Ln w0 V va b u w3 ∧ Ofw (fun k => k = b) W1 w3) := ⟨by rw [HU2.out]; exact h3, H2.out.2.trans o3⟩
           clear h3 o3 H2
           go_wp2_with fail)
        | (have H3 : Hid (Ln w0 V va b u w2 ∧ Ofw (fun k => k = b) W1 w2) := ⟨by rw [HU2.out]; exact H2.out.1, H2.out.2⟩
           clear H2
           rename World => w3)
      refine calls_at (HN.out u w3 H3.out.1) (by with_reducible rfl) (by with_reducible rfl) ?_
      rintro e w4 ⟨rfl, h4, o4⟩
      have H4 : Hid (Ln w0 V va b (nameT V u).2 w4 ∧ Ofw (fun k => k = b) W1 w4) := ⟨h4, H3.out.2.trans o4⟩
      clear h4 o4
      have k4 := HH.out w4 H4.out.2
      have c0 := cell_of k4 0
      have c1 := cell_of k4 1
      have z0 := frozen_of k4 0
      have z1 := frozen_of k4 1
      have K4 : Hid (w4.heap[w.heap.size]? = some (.cells #[.int .i64 0, .int .i64 0] 87)) := k4
      clear k4
      go_wp2_with fail
      have HF5 : Hid (∀ (m : Int) (V5 : World), V5 = (w4.setCell ⟨w.heap.size, 0, none⟩ (.int .i64 n)).setCell ⟨w.heap.size, 1, none⟩ (.int .i64 m) → V5.heap[w.heap.size]? = some (.cells #[.int .i64 n, .int .i64 m] 87) ∧ Ln w0 V va b (nameT V u).2 V5 ∧ Ofw (fun k => k = b) w V5) := fun m V5 hV => by
        subst hV
        have o5 : Ofw (fun k => k = w.heap.size) w4 ((w4.setCell ⟨w.heap.size, 0, none⟩ (.int .i64 n)).setCell ⟨w.heap.size, 1, none⟩ (.int .i64 m)) := (Ofw.set (S := fun k => k = w.heap.size) _ rfl).trans (Ofw.set (S := fun k => k = w.heap.size) _ rfl)
        exact ⟨set_of (set_of K4.out 0 _) 1 _, H4.out.1.keep (fun k hk => by omega) o5, (HO0.out.trans H4.out.2).new o5 (fun i hi => by omega)⟩
      obtain ⟨k5, l5, o5⟩ := HF5.out _ _ rfl
      exact bodyPost_ret (v := .agg #[.int .i64 n, .int .i64 (nameT V u).1]) (results_cell_row (p := 4) (ty := 87) rfl _ _ w.heap.size 87 #[.int .i64 n, .int .i64 (nameT V u).1] (0, 0) _ rfl k5 Tryz.underlying87 rfl (by kernel_rfl)) rfl ⟨rfl, l5, o5⟩
  exact key _ _ _ rfl rfl rfl
end Go.Proofs.YthohnmplbjhjaaaGreatDoor
