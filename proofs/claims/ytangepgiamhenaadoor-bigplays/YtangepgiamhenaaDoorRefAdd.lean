/-
  The document's numbers: Add, Sub.
-/
import Derived.Test.YtangepgiamhenaaDoorRefBox
namespace Go.Proofs.YtangepgiamhenaaDoor
open Go.RowKit
open Bn (limbs)

set_option maxRecDepth 100000 in
set_option maxHeartbeats 10000000 in
/-- Add. -/
theorem refAdd_any (x y : Int) (va vb : Value) (w : World) (ha : RefAt w va x) (hb : RefAt w vb y) (hx : (limbs x.natAbs).length ≤ 1000000) (hy : (limbs y.natAbs).length ≤ 1000000) :
    Calls Tryd.prog 24 #[va, vb] w fun e w' => ∃ r, e = .returned r ∧ RefAt w' r (x + y) ∧ Below w.heap.size w w' := by
  have HA : Hid (RefAt w va x) := ha
  have HB : Hid (RefAt w vb y) := hb
  obtain ⟨p1, c1, rfl⟩ := ha.form
  obtain ⟨p2, c2, rfl⟩ := hb.form
  have HIa : Hid (∀ w', Below w.heap.size w w' → IntsAt w' (.slice p1 (limbs x.natAbs).length c1) (limbs x.natAbs)) := fun w' hb => (RefAt.ints (HA.out.below hb)).2
  have HIb : Hid (∀ w', Below w.heap.size w w' → IntsAt w' (.slice p2 (limbs y.natAbs).length c2) (limbs y.natAbs)) := fun w' hb => (RefAt.ints (HB.out.below hb)).2
  obtain ⟨d1, hd1⟩ : ∃ d1, d1 = decide (x < 0) := ⟨_, rfl⟩
  obtain ⟨d2, hd2⟩ : ∃ d2, d2 = decide (y < 0) := ⟨_, rfl⟩
  have E1 : Hid (d1 = decide (x < 0)) := hd1
  have E2 : Hid (d2 = decide (y < 0)) := hd2
  rw [← hd1, ← hd2]
  clear ha hb HA HB hd1 hd2
  have HC : Hid (∀ w', Below w.heap.size w w' → Calls Tryd.prog 54 #[.slice p1 (limbs x.natAbs).length c1, .slice p2 (limbs y.natAbs).length c2] w' fun e w'' => e = .returned (.int .i64 (cmpI (x.natAbs : Int) (y.natAbs : Int))) ∧ Below w'.heap.size w' w'') := fun w' h => sizes_any x.natAbs y.natAbs _ _ w' (HIa.out w' h) (HIb.out w' h)
  have HM : Hid (∀ w', Below w.heap.size w w' → Calls Tryd.prog 53 #[.slice p1 (limbs x.natAbs).length c1, .slice p2 (limbs y.natAbs).length c2] w' fun e w'' => ∃ v, e = .returned v ∧ SizeAt w'' v (x.natAbs + y.natAbs) ∧ Below w'.heap.size w' w'') := fun w' h => by
    have := more_any (limbs x.natAbs) (limbs y.natAbs) _ _ w' (HIa.out w' h) (HIb.out w' h) (fun d h => Bn.limbs_lt' h) (fun d h => Bn.limbs_lt' h) (by omega) (by omega)
    rw [Bn.val_limbs', Bn.val_limbs'] at this; exact this
  cases d1 with
  | false =>
    cases d2 with
    | false =>
      have HE : Hid (sg false (x.natAbs + y.natAbs) = x + y) := by
        have h1 := E1.out.symm
        have h2 := E2.out.symm
        have := sum_same (x := x) (y := y) (h1.trans h2.symm)
        rw [h1] at this; exact this
      go_enter Tryd.func24, Tryd.ntmps24
      go_wp2_with fail
      generalize hW : ((w.alloc (.cells #[.bool false, .slice p1 (limbs x.natAbs).length c1] 30)).alloc (.cells #[.bool false, .slice p2 (limbs y.natAbs).length c2] 30)).alloc (.cells #[.bool false, .slice none 0 0] 30) = W
      obtain ⟨hA, hB, hR, hBW, hsz⟩ := three_objs w _ _ _ hW
      clear hW
      have hAV := hA
      have hBV := hB
      have hRV := hR
      have hVb := hBW
      obtain ⟨a0, a1, _, _⟩ := rbox_facts hAV
      obtain ⟨b0, b1, _, _⟩ := rbox_facts hBV
      go_region_with (first
        | (go_at_call 53; refine calls_at (HM.out _ ?_) (by with_reducible rfl) (by with_reducible rfl) ?_; exact hVb.drew; rintro e w1 ⟨v, rfl, hv, hb1⟩; obtain ⟨p3, n3, c3, hv3⟩ := hv.form; subst hv3; obtain ⟨f0, f1, _, _⟩ := rbox_facts ((hb1.block w.heap.size (by show w.heap.size < W.heap.size; omega)).trans hAV); obtain ⟨g0, g1, _, _⟩ := rbox_facts ((hb1.block (w.heap.size + 1) (by show w.heap.size + 1 < W.heap.size; omega)).trans hBV))
        | (go_at_call 38; refine calls_at (made_size false _ (x + y) _ w1 hv HE.out) (by with_reducible rfl) (by with_reducible rfl) ?_; rintro e w2 ⟨r, rfl, hr, hb2⟩; obtain ⟨p4, c4, hr4⟩ := hr.form; subst hr4; have hR1 := (hb1.block (w.heap.size + 1 + 1) (by show w.heap.size + 1 + 1 < W.heap.size; omega)).trans hRV; have hs1 : W.heap.size ≤ w1.heap.size := hb1.size; have hR2 := (hb2.block (w.heap.size + 1 + 1) (by omega)).trans hR1; obtain ⟨r0, r1, r2, r3⟩ := rbox_facts hR2; have hfin : Below w.heap.size w w2 := (hVb.drew.trans (hb1.mono hVb.size)).trans (hb2.mono (Nat.le_trans hVb.size hs1))))
      all_goals
        generalize decide (x + y < 0) = dn at *
        generalize (limbs (x + y).natAbs).length = ln at *
        obtain ⟨m0, m1⟩ := rbox_set hR2 (.bool dn) (.slice p4 ln c4)
        go_wp2
        exact bodyPost_ret (v := .agg #[.bool dn, .slice p4 ln c4]) (by simp [results, Tryd.results24, go_sem, m0, m1]) rfl ⟨_, rfl, hr.setBox hR2 _ _, (hfin.setCell (p := ⟨w.heap.size + 1 + 1, 0, none⟩) (by show w.heap.size ≤ w.heap.size + 1 + 1; omega) _).setCell (p := ⟨w.heap.size + 1 + 1, 1, none⟩) (by show w.heap.size ≤ w.heap.size + 1 + 1; omega) _⟩
    | true =>
      have hne : decide (x < 0) ≠ decide (y < 0) := by rw [← E1.out, ← E2.out]; decide
      by_cases hle : y.natAbs ≤ x.natAbs
      · have HE : Hid (sg false (x.natAbs - y.natAbs) = x + y) := by
          have := sum_ge hne hle
          rw [← E1.out] at this; exact this
        have hcc : 0 ≤ cmpI (x.natAbs : Int) (y.natAbs : Int) := by
          rcases Nat.lt_or_ge y.natAbs x.natAbs with h | h
          · rw [cmpI_gt (by omega)]; decide
          · rw [cmpI_eq (by omega) (by omega)]; decide
        generalize cmpI (x.natAbs : Int) (y.natAbs : Int) = cc at *
        have HL : Hid (∀ w', Below w.heap.size w w' → Calls Tryd.prog 55 #[.slice p1 (limbs x.natAbs).length c1, .slice p2 (limbs y.natAbs).length c2] w' fun e w'' => ∃ v, e = .returned v ∧ SizeAt w'' v (x.natAbs - y.natAbs) ∧ Below w'.heap.size w' w'') := fun w' h => by
          have := less_any (limbs x.natAbs) (limbs y.natAbs) _ _ w' (HIa.out w' h) (HIb.out w' h) (fun d h => Bn.limbs_lt' h) (fun d h => Bn.limbs_lt' h) (by omega) (limbs_len_mono hle) (by rw [Bn.val_limbs', Bn.val_limbs']; exact hle)
          rw [Bn.val_limbs', Bn.val_limbs'] at this; exact this
        go_enter Tryd.func24, Tryd.ntmps24
        go_wp2_with fail
        generalize hW : ((w.alloc (.cells #[.bool false, .slice p1 (limbs x.natAbs).length c1] 30)).alloc (.cells #[.bool true, .slice p2 (limbs y.natAbs).length c2] 30)).alloc (.cells #[.bool false, .slice none 0 0] 30) = W
        obtain ⟨hA, hB, hR, hBW, hsz⟩ := three_objs w _ _ _ hW
        clear hW
        refine (HC.out W hBW).mono ?_
        rintro e V ⟨rfl, hbV⟩
        have hVb : Below w.heap.size w V := hBW.trans (hbV.mono hBW.size)
        have hsV := hbV.size
        have hAV := (hbV.block w.heap.size (by omega)).trans hA
        have hBV := (hbV.block (w.heap.size + 1) (by omega)).trans hB
        have hRV := (hbV.block (w.heap.size + 1 + 1) (by omega)).trans hR
        go_wp2_with fail
        obtain ⟨a0, a1, _, _⟩ := rbox_facts hAV
        obtain ⟨b0, b1, _, _⟩ := rbox_facts hBV
        go_region_with (first
          | (go_at_call 55; refine calls_at (HL.out _ ?_) (by with_reducible rfl) (by with_reducible rfl) ?_; exact hVb.drew; rintro e w1 ⟨v, rfl, hv, hb1⟩; obtain ⟨p3, n3, c3, hv3⟩ := hv.form; subst hv3; obtain ⟨f0, f1, _, _⟩ := rbox_facts ((hb1.block w.heap.size (by show w.heap.size < V.heap.size; omega)).trans hAV); obtain ⟨g0, g1, _, _⟩ := rbox_facts ((hb1.block (w.heap.size + 1) (by show w.heap.size + 1 < V.heap.size; omega)).trans hBV))
          | (go_at_call 38; refine calls_at (made_size false _ (x + y) _ w1 hv HE.out) (by with_reducible rfl) (by with_reducible rfl) ?_; rintro e w2 ⟨r, rfl, hr, hb2⟩; obtain ⟨p4, c4, hr4⟩ := hr.form; subst hr4; have hR1 := (hb1.block (w.heap.size + 1 + 1) (by show w.heap.size + 1 + 1 < V.heap.size; omega)).trans hRV; have hs1 : V.heap.size ≤ w1.heap.size := hb1.size; have hR2 := (hb2.block (w.heap.size + 1 + 1) (by omega)).trans hR1; obtain ⟨r0, r1, r2, r3⟩ := rbox_facts hR2; have hfin : Below w.heap.size w w2 := (hVb.drew.trans (hb1.mono hVb.size)).trans (hb2.mono (Nat.le_trans hVb.size hs1))))
        all_goals
          generalize decide (x + y < 0) = dn at *
          generalize (limbs (x + y).natAbs).length = ln at *
          obtain ⟨m0, m1⟩ := rbox_set hR2 (.bool dn) (.slice p4 ln c4)
          go_wp2
          exact bodyPost_ret (v := .agg #[.bool dn, .slice p4 ln c4]) (by simp [results, Tryd.results24, go_sem, m0, m1]) rfl ⟨_, rfl, hr.setBox hR2 _ _, (hfin.setCell (p := ⟨w.heap.size + 1 + 1, 0, none⟩) (by show w.heap.size ≤ w.heap.size + 1 + 1; omega) _).setCell (p := ⟨w.heap.size + 1 + 1, 1, none⟩) (by show w.heap.size ≤ w.heap.size + 1 + 1; omega) _⟩
      · have HE : Hid (sg true (y.natAbs - x.natAbs) = x + y) := by
          have := sum_lt hne (show x.natAbs < y.natAbs by omega)
          rw [← E2.out] at this; exact this
        have hcc : cmpI (x.natAbs : Int) (y.natAbs : Int) = -1 := cmpI_lt (by omega)
        have HL : Hid (∀ w', Below w.heap.size w w' → Calls Tryd.prog 55 #[.slice p2 (limbs y.natAbs).length c2, .slice p1 (limbs x.natAbs).length c1] w' fun e w'' => ∃ v, e = .returned v ∧ SizeAt w'' v (y.natAbs - x.natAbs) ∧ Below w'.heap.size w' w'') := fun w' h => by
          have := less_any (limbs y.natAbs) (limbs x.natAbs) _ _ w' (HIb.out w' h) (HIa.out w' h) (fun d h => Bn.limbs_lt' h) (fun d h => Bn.limbs_lt' h) (by omega) (limbs_len_mono (by omega)) (by rw [Bn.val_limbs', Bn.val_limbs']; omega)
          rw [Bn.val_limbs', Bn.val_limbs'] at this; exact this
        rw [hcc] at HC
        clear hcc
        go_enter Tryd.func24, Tryd.ntmps24
        go_wp2_with fail
        generalize hW : ((w.alloc (.cells #[.bool false, .slice p1 (limbs x.natAbs).length c1] 30)).alloc (.cells #[.bool true, .slice p2 (limbs y.natAbs).length c2] 30)).alloc (.cells #[.bool false, .slice none 0 0] 30) = W
        obtain ⟨hA, hB, hR, hBW, hsz⟩ := three_objs w _ _ _ hW
        clear hW
        refine (HC.out W hBW).mono ?_
        rintro e V ⟨rfl, hbV⟩
        have hVb : Below w.heap.size w V := hBW.trans (hbV.mono hBW.size)
        have hsV := hbV.size
        have hAV := (hbV.block w.heap.size (by omega)).trans hA
        have hBV := (hbV.block (w.heap.size + 1) (by omega)).trans hB
        have hRV := (hbV.block (w.heap.size + 1 + 1) (by omega)).trans hR
        go_wp2_with fail
        obtain ⟨a0, a1, _, _⟩ := rbox_facts hAV
        obtain ⟨b0, b1, _, _⟩ := rbox_facts hBV
        go_region_with (first
          | (go_at_call 55; refine calls_at (HL.out _ ?_) (by with_reducible rfl) (by with_reducible rfl) ?_; exact hVb.drew; rintro e w1 ⟨v, rfl, hv, hb1⟩; obtain ⟨p3, n3, c3, hv3⟩ := hv.form; subst hv3; obtain ⟨f0, f1, _, _⟩ := rbox_facts ((hb1.block w.heap.size (by show w.heap.size < V.heap.size; omega)).trans hAV); obtain ⟨g0, g1, _, _⟩ := rbox_facts ((hb1.block (w.heap.size + 1) (by show w.heap.size + 1 < V.heap.size; omega)).trans hBV))
          | (go_at_call 38; refine calls_at (made_size true _ (x + y) _ w1 hv HE.out) (by with_reducible rfl) (by with_reducible rfl) ?_; rintro e w2 ⟨r, rfl, hr, hb2⟩; obtain ⟨p4, c4, hr4⟩ := hr.form; subst hr4; have hR1 := (hb1.block (w.heap.size + 1 + 1) (by show w.heap.size + 1 + 1 < V.heap.size; omega)).trans hRV; have hs1 : V.heap.size ≤ w1.heap.size := hb1.size; have hR2 := (hb2.block (w.heap.size + 1 + 1) (by omega)).trans hR1; obtain ⟨r0, r1, r2, r3⟩ := rbox_facts hR2; have hfin : Below w.heap.size w w2 := (hVb.drew.trans (hb1.mono hVb.size)).trans (hb2.mono (Nat.le_trans hVb.size hs1))))
        all_goals
          generalize decide (x + y < 0) = dn at *
          generalize (limbs (x + y).natAbs).length = ln at *
          obtain ⟨m0, m1⟩ := rbox_set hR2 (.bool dn) (.slice p4 ln c4)
          go_wp2
          exact bodyPost_ret (v := .agg #[.bool dn, .slice p4 ln c4]) (by simp [results, Tryd.results24, go_sem, m0, m1]) rfl ⟨_, rfl, hr.setBox hR2 _ _, (hfin.setCell (p := ⟨w.heap.size + 1 + 1, 0, none⟩) (by show w.heap.size ≤ w.heap.size + 1 + 1; omega) _).setCell (p := ⟨w.heap.size + 1 + 1, 1, none⟩) (by show w.heap.size ≤ w.heap.size + 1 + 1; omega) _⟩
  | true =>
    cases d2 with
    | false =>
      have hne : decide (x < 0) ≠ decide (y < 0) := by rw [← E1.out, ← E2.out]; decide
      by_cases hle : y.natAbs ≤ x.natAbs
      · have HE : Hid (sg true (x.natAbs - y.natAbs) = x + y) := by
          have := sum_ge hne hle
          rw [← E1.out] at this; exact this
        have hcc : 0 ≤ cmpI (x.natAbs : Int) (y.natAbs : Int) := by
          rcases Nat.lt_or_ge y.natAbs x.natAbs with h | h
          · rw [cmpI_gt (by omega)]; decide
          · rw [cmpI_eq (by omega) (by omega)]; decide
        generalize cmpI (x.natAbs : Int) (y.natAbs : Int) = cc at *
        have HL : Hid (∀ w', Below w.heap.size w w' → Calls Tryd.prog 55 #[.slice p1 (limbs x.natAbs).length c1, .slice p2 (limbs y.natAbs).length c2] w' fun e w'' => ∃ v, e = .returned v ∧ SizeAt w'' v (x.natAbs - y.natAbs) ∧ Below w'.heap.size w' w'') := fun w' h => by
          have := less_any (limbs x.natAbs) (limbs y.natAbs) _ _ w' (HIa.out w' h) (HIb.out w' h) (fun d h => Bn.limbs_lt' h) (fun d h => Bn.limbs_lt' h) (by omega) (limbs_len_mono hle) (by rw [Bn.val_limbs', Bn.val_limbs']; exact hle)
          rw [Bn.val_limbs', Bn.val_limbs'] at this; exact this
        go_enter Tryd.func24, Tryd.ntmps24
        go_wp2_with fail
        generalize hW : ((w.alloc (.cells #[.bool true, .slice p1 (limbs x.natAbs).length c1] 30)).alloc (.cells #[.bool false, .slice p2 (limbs y.natAbs).length c2] 30)).alloc (.cells #[.bool false, .slice none 0 0] 30) = W
        obtain ⟨hA, hB, hR, hBW, hsz⟩ := three_objs w _ _ _ hW
        clear hW
        refine (HC.out W hBW).mono ?_
        rintro e V ⟨rfl, hbV⟩
        have hVb : Below w.heap.size w V := hBW.trans (hbV.mono hBW.size)
        have hsV := hbV.size
        have hAV := (hbV.block w.heap.size (by omega)).trans hA
        have hBV := (hbV.block (w.heap.size + 1) (by omega)).trans hB
        have hRV := (hbV.block (w.heap.size + 1 + 1) (by omega)).trans hR
        go_wp2_with fail
        obtain ⟨a0, a1, _, _⟩ := rbox_facts hAV
        obtain ⟨b0, b1, _, _⟩ := rbox_facts hBV
        go_region_with (first
          | (go_at_call 55; refine calls_at (HL.out _ ?_) (by with_reducible rfl) (by with_reducible rfl) ?_; exact hVb.drew; rintro e w1 ⟨v, rfl, hv, hb1⟩; obtain ⟨p3, n3, c3, hv3⟩ := hv.form; subst hv3; obtain ⟨f0, f1, _, _⟩ := rbox_facts ((hb1.block w.heap.size (by show w.heap.size < V.heap.size; omega)).trans hAV); obtain ⟨g0, g1, _, _⟩ := rbox_facts ((hb1.block (w.heap.size + 1) (by show w.heap.size + 1 < V.heap.size; omega)).trans hBV))
          | (go_at_call 38; refine calls_at (made_size true _ (x + y) _ w1 hv HE.out) (by with_reducible rfl) (by with_reducible rfl) ?_; rintro e w2 ⟨r, rfl, hr, hb2⟩; obtain ⟨p4, c4, hr4⟩ := hr.form; subst hr4; have hR1 := (hb1.block (w.heap.size + 1 + 1) (by show w.heap.size + 1 + 1 < V.heap.size; omega)).trans hRV; have hs1 : V.heap.size ≤ w1.heap.size := hb1.size; have hR2 := (hb2.block (w.heap.size + 1 + 1) (by omega)).trans hR1; obtain ⟨r0, r1, r2, r3⟩ := rbox_facts hR2; have hfin : Below w.heap.size w w2 := (hVb.drew.trans (hb1.mono hVb.size)).trans (hb2.mono (Nat.le_trans hVb.size hs1))))
        all_goals
          generalize decide (x + y < 0) = dn at *
          generalize (limbs (x + y).natAbs).length = ln at *
          obtain ⟨m0, m1⟩ := rbox_set hR2 (.bool dn) (.slice p4 ln c4)
          go_wp2
          exact bodyPost_ret (v := .agg #[.bool dn, .slice p4 ln c4]) (by simp [results, Tryd.results24, go_sem, m0, m1]) rfl ⟨_, rfl, hr.setBox hR2 _ _, (hfin.setCell (p := ⟨w.heap.size + 1 + 1, 0, none⟩) (by show w.heap.size ≤ w.heap.size + 1 + 1; omega) _).setCell (p := ⟨w.heap.size + 1 + 1, 1, none⟩) (by show w.heap.size ≤ w.heap.size + 1 + 1; omega) _⟩
      · have HE : Hid (sg false (y.natAbs - x.natAbs) = x + y) := by
          have := sum_lt hne (show x.natAbs < y.natAbs by omega)
          rw [← E2.out] at this; exact this
        have hcc : cmpI (x.natAbs : Int) (y.natAbs : Int) = -1 := cmpI_lt (by omega)
        have HL : Hid (∀ w', Below w.heap.size w w' → Calls Tryd.prog 55 #[.slice p2 (limbs y.natAbs).length c2, .slice p1 (limbs x.natAbs).length c1] w' fun e w'' => ∃ v, e = .returned v ∧ SizeAt w'' v (y.natAbs - x.natAbs) ∧ Below w'.heap.size w' w'') := fun w' h => by
          have := less_any (limbs y.natAbs) (limbs x.natAbs) _ _ w' (HIb.out w' h) (HIa.out w' h) (fun d h => Bn.limbs_lt' h) (fun d h => Bn.limbs_lt' h) (by omega) (limbs_len_mono (by omega)) (by rw [Bn.val_limbs', Bn.val_limbs']; omega)
          rw [Bn.val_limbs', Bn.val_limbs'] at this; exact this
        rw [hcc] at HC
        clear hcc
        go_enter Tryd.func24, Tryd.ntmps24
        go_wp2_with fail
        generalize hW : ((w.alloc (.cells #[.bool true, .slice p1 (limbs x.natAbs).length c1] 30)).alloc (.cells #[.bool false, .slice p2 (limbs y.natAbs).length c2] 30)).alloc (.cells #[.bool false, .slice none 0 0] 30) = W
        obtain ⟨hA, hB, hR, hBW, hsz⟩ := three_objs w _ _ _ hW
        clear hW
        refine (HC.out W hBW).mono ?_
        rintro e V ⟨rfl, hbV⟩
        have hVb : Below w.heap.size w V := hBW.trans (hbV.mono hBW.size)
        have hsV := hbV.size
        have hAV := (hbV.block w.heap.size (by omega)).trans hA
        have hBV := (hbV.block (w.heap.size + 1) (by omega)).trans hB
        have hRV := (hbV.block (w.heap.size + 1 + 1) (by omega)).trans hR
        go_wp2_with fail
        obtain ⟨a0, a1, _, _⟩ := rbox_facts hAV
        obtain ⟨b0, b1, _, _⟩ := rbox_facts hBV
        go_region_with (first
          | (go_at_call 55; refine calls_at (HL.out _ ?_) (by with_reducible rfl) (by with_reducible rfl) ?_; exact hVb.drew; rintro e w1 ⟨v, rfl, hv, hb1⟩; obtain ⟨p3, n3, c3, hv3⟩ := hv.form; subst hv3; obtain ⟨f0, f1, _, _⟩ := rbox_facts ((hb1.block w.heap.size (by show w.heap.size < V.heap.size; omega)).trans hAV); obtain ⟨g0, g1, _, _⟩ := rbox_facts ((hb1.block (w.heap.size + 1) (by show w.heap.size + 1 < V.heap.size; omega)).trans hBV))
          | (go_at_call 38; refine calls_at (made_size false _ (x + y) _ w1 hv HE.out) (by with_reducible rfl) (by with_reducible rfl) ?_; rintro e w2 ⟨r, rfl, hr, hb2⟩; obtain ⟨p4, c4, hr4⟩ := hr.form; subst hr4; have hR1 := (hb1.block (w.heap.size + 1 + 1) (by show w.heap.size + 1 + 1 < V.heap.size; omega)).trans hRV; have hs1 : V.heap.size ≤ w1.heap.size := hb1.size; have hR2 := (hb2.block (w.heap.size + 1 + 1) (by omega)).trans hR1; obtain ⟨r0, r1, r2, r3⟩ := rbox_facts hR2; have hfin : Below w.heap.size w w2 := (hVb.drew.trans (hb1.mono hVb.size)).trans (hb2.mono (Nat.le_trans hVb.size hs1))))
        all_goals
          generalize decide (x + y < 0) = dn at *
          generalize (limbs (x + y).natAbs).length = ln at *
          obtain ⟨m0, m1⟩ := rbox_set hR2 (.bool dn) (.slice p4 ln c4)
          go_wp2
          exact bodyPost_ret (v := .agg #[.bool dn, .slice p4 ln c4]) (by simp [results, Tryd.results24, go_sem, m0, m1]) rfl ⟨_, rfl, hr.setBox hR2 _ _, (hfin.setCell (p := ⟨w.heap.size + 1 + 1, 0, none⟩) (by show w.heap.size ≤ w.heap.size + 1 + 1; omega) _).setCell (p := ⟨w.heap.size + 1 + 1, 1, none⟩) (by show w.heap.size ≤ w.heap.size + 1 + 1; omega) _⟩
    | true =>
      have HE : Hid (sg true (x.natAbs + y.natAbs) = x + y) := by
        have h1 := E1.out.symm
        have h2 := E2.out.symm
        have := sum_same (x := x) (y := y) (h1.trans h2.symm)
        rw [h1] at this; exact this
      go_enter Tryd.func24, Tryd.ntmps24
      go_wp2_with fail
      generalize hW : ((w.alloc (.cells #[.bool true, .slice p1 (limbs x.natAbs).length c1] 30)).alloc (.cells #[.bool true, .slice p2 (limbs y.natAbs).length c2] 30)).alloc (.cells #[.bool false, .slice none 0 0] 30) = W
      obtain ⟨hA, hB, hR, hBW, hsz⟩ := three_objs w _ _ _ hW
      clear hW
      have hAV := hA
      have hBV := hB
      have hRV := hR
      have hVb := hBW
      obtain ⟨a0, a1, _, _⟩ := rbox_facts hAV
      obtain ⟨b0, b1, _, _⟩ := rbox_facts hBV
      go_region_with (first
        | (go_at_call 53; refine calls_at (HM.out _ ?_) (by with_reducible rfl) (by with_reducible rfl) ?_; exact hVb.drew; rintro e w1 ⟨v, rfl, hv, hb1⟩; obtain ⟨p3, n3, c3, hv3⟩ := hv.form; subst hv3; obtain ⟨f0, f1, _, _⟩ := rbox_facts ((hb1.block w.heap.size (by show w.heap.size < W.heap.size; omega)).trans hAV); obtain ⟨g0, g1, _, _⟩ := rbox_facts ((hb1.block (w.heap.size + 1) (by show w.heap.size + 1 < W.heap.size; omega)).trans hBV))
        | (go_at_call 38; refine calls_at (made_size true _ (x + y) _ w1 hv HE.out) (by with_reducible rfl) (by with_reducible rfl) ?_; rintro e w2 ⟨r, rfl, hr, hb2⟩; obtain ⟨p4, c4, hr4⟩ := hr.form; subst hr4; have hR1 := (hb1.block (w.heap.size + 1 + 1) (by show w.heap.size + 1 + 1 < W.heap.size; omega)).trans hRV; have hs1 : W.heap.size ≤ w1.heap.size := hb1.size; have hR2 := (hb2.block (w.heap.size + 1 + 1) (by omega)).trans hR1; obtain ⟨r0, r1, r2, r3⟩ := rbox_facts hR2; have hfin : Below w.heap.size w w2 := (hVb.drew.trans (hb1.mono hVb.size)).trans (hb2.mono (Nat.le_trans hVb.size hs1))))
      all_goals
        generalize decide (x + y < 0) = dn at *
        generalize (limbs (x + y).natAbs).length = ln at *
        obtain ⟨m0, m1⟩ := rbox_set hR2 (.bool dn) (.slice p4 ln c4)
        go_wp2
        exact bodyPost_ret (v := .agg #[.bool dn, .slice p4 ln c4]) (by simp [results, Tryd.results24, go_sem, m0, m1]) rfl ⟨_, rfl, hr.setBox hR2 _ _, (hfin.setCell (p := ⟨w.heap.size + 1 + 1, 0, none⟩) (by show w.heap.size ≤ w.heap.size + 1 + 1; omega) _).setCell (p := ⟨w.heap.size + 1 + 1, 1, none⟩) (by show w.heap.size ≤ w.heap.size + 1 + 1; omega) _⟩

end Go.Proofs.YtangepgiamhenaaDoor
