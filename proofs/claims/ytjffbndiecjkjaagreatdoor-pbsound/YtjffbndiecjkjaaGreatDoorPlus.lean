/-
  Package big: Add.
-/
import Derived.Test.YtjffbndiecjkjaaGreatDoorArith
namespace Go.Proofs.YtjffbndiecjkjaaGreatDoor
open Go.RowKit
open Bn (limbs)
attribute [local go_sem ↓] Go.wp_at_zero Go.wp_at_succ

/-- A contract at a call whose arguments and world are known to be its own. -/
theorem calls_at {P : Program} {f : FuncId} {args args' : Array Value} {w w' : World} {Q Q' : Ending → World → Prop} (h : Calls P f args w Q) (e : args' = args) (ew : w' = w) (hm : ∀ e w', Q e w' → Q' e w') : Calls P f args' w' Q' := by
  subst e; subst ew; exact h.mono hm

/-- The boxes of two numbers, still as they were. -/
def Two (W : World) (N : Nat) (n1 n2 : Int) (q1 q2 : Option Addr) (w' : World) : Prop :=
  w'.cell? ⟨N, 0, none⟩ = some (.int .i64 n1) ∧ w'.cell? ⟨N, 1, none⟩ = some (.pointer q1) ∧ w'.cell? ⟨N + 1, 0, none⟩ = some (.int .i64 n2) ∧ w'.cell? ⟨N + 1, 1, none⟩ = some (.pointer q2) ∧ N + 1 < w'.heap.size ∧ Below W.heap.size W w'
theorem Two.next {W : World} {N : Nat} {n1 n2 : Int} {q1 q2 : Option Addr} {w' w'' : World} (h : Two W N n1 n2 q1 q2 w') (hb : Below w'.heap.size w' w'') : Two W N n1 n2 q1 q2 w'' := by
  obtain ⟨h1, h2, h3, h4, h5, h6⟩ := h
  exact ⟨(hb.cell (p := ⟨N, 0, none⟩) (show N < _ by omega)).trans h1, (hb.cell (p := ⟨N, 1, none⟩) (show N < _ by omega)).trans h2, (hb.cell (p := ⟨N + 1, 0, none⟩) h5).trans h3, (hb.cell (p := ⟨N + 1, 1, none⟩) h5).trans h4, Nat.lt_of_lt_of_le h5 hb.size, h6.trans (hb.mono h6.size)⟩

/-- Three boxes that have just been made: two numbers', and the result's. -/
theorem three_boxes (w : World) (n1 n2 : Int) (q1 q2 : Option Addr) {W : World} (hW : ((w.alloc (.cells #[.int .i64 n1, .pointer q1] 33)).alloc (.cells #[.int .i64 n2, .pointer q2] 33)).alloc (.cells #[.int .i64 0, .pointer none] 33) = W) :
    W.heap[w.heap.size]? = some (.cells #[.int .i64 n1, .pointer q1] 33) ∧ W.heap[w.heap.size + 1]? = some (.cells #[.int .i64 n2, .pointer q2] 33) ∧ W.heap[w.heap.size + 1 + 1]? = some (.cells #[.int .i64 0, .pointer none] 33) ∧ Below w.heap.size w W ∧ W.heap.size = w.heap.size + 3 := by
  subst hW
  have hs1 : (w.alloc (.cells #[.int .i64 n1, .pointer q1] 33)).heap.size = w.heap.size + 1 := by simp
  have hs2 : ((w.alloc (.cells #[.int .i64 n1, .pointer q1] 33)).alloc (.cells #[.int .i64 n2, .pointer q2] 33)).heap.size = w.heap.size + 1 + 1 := by simp
  refine ⟨?_, ?_, ?_, (((Below.refl _ _).alloc (Nat.le_refl _) _).alloc (by simp) _).alloc (by simp; omega) _, by simp⟩
  · exact (Below.heap_alloc _ _ _ (by simp; omega)).trans ((Below.heap_alloc _ _ _ (by simp)).trans (World.alloc_heap_new w _))
  · refine (Below.heap_alloc _ _ _ (by simp)).trans ?_
    rw [← hs1]; exact World.alloc_heap_new _ _
  · rw [← hs2]; exact World.alloc_heap_new _ _

theorem sum_same {x y : Int} (h : decide (x < 0) = decide (y < 0)) : sg (decide (x < 0)) (x.natAbs + y.natAbs) = x + y := by
  unfold sg
  by_cases h1 : x < 0
  · have h2 : y < 0 := by simpa [h1] using h.symm
    simp [h1]; omega
  · have h2 : ¬ y < 0 := by simpa [h1] using h.symm
    simp [h1]; omega
theorem sum_lt {x y : Int} (h : decide (x < 0) ≠ decide (y < 0)) (hl : x.natAbs < y.natAbs) : sg (decide (y < 0)) (y.natAbs - x.natAbs) = x + y := by
  unfold sg
  by_cases h1 : x < 0
  · have h2 : ¬ y < 0 := fun h2 => h (by simp [h1, h2])
    simp [h2]; omega
  · have h2 : y < 0 := Classical.byContradiction fun h2 => h (by simp [h1, h2])
    simp [h2]; omega
theorem sum_ge {x y : Int} (h : decide (x < 0) ≠ decide (y < 0)) (hl : y.natAbs ≤ x.natAbs) : sg (decide (x < 0)) (x.natAbs - y.natAbs) = x + y := by
  unfold sg
  by_cases h1 : x < 0
  · have h2 : ¬ y < 0 := fun h2 => h (by simp [h1, h2])
    simp [h1]; omega
  · have h2 : y < 0 := Classical.byContradiction fun h2 => h (by simp [h1, h2])
    simp [h1]; omega

set_option maxRecDepth 100000 in
set_option maxHeartbeats 1000000 in
/-- Add, where a is no int. -/
theorem add_wideA (x y : Int) (n1 n2 : Int) (p1 : Addr) (q2 : Option Addr) (w : World) (HA : Hid (BigAt w (.agg #[.int .i64 n1, .pointer (some p1)]) x)) (HB : Hid (BigAt w (.agg #[.int .i64 n2, .pointer q2]) y))  (hx : (limbs x.natAbs).length ≤ 1000000) (hy : (limbs y.natAbs).length ≤ 1000000) :
    Calls Tryz.prog 29 #[.agg #[.int .i64 n1, .pointer (some p1)], .agg #[.int .i64 n2, .pointer q2]] w fun e w' => ∃ r, e = .returned r ∧ BigAt w' r (x + y) ∧ Below w.heap.size w w' := by
  obtain ⟨d1, E1⟩ : ∃ d1, Hid (d1 = decide (x < 0)) := ⟨_, rfl⟩
  obtain ⟨d2, E2⟩ : ∃ d2, Hid (d2 = decide (y < 0)) := ⟨_, rfl⟩
  go_enter Tryz.func29, Tryz.ntmps29
  go_wp2_with fail
  generalize hW : ((w.alloc (.cells #[.int .i64 n1, .pointer (some p1)] 33)).alloc (.cells #[.int .i64 n2, .pointer q2] 33)).alloc (.cells #[.int .i64 0, .pointer none] 33) = W
  obtain ⟨hA, hB, hR, hBW, hsz⟩ := three_boxes w n1 n2 (some p1) q2 hW
  have HA' : Hid (BigAt W (.agg #[.int .i64 n1, .pointer (some p1)]) x) := HA.out.below hBW
  have HB' : Hid (BigAt W (.agg #[.int .i64 n2, .pointer q2]) y) := HB.out.below hBW
  obtain ⟨a0, a1, _, _⟩ := box_facts hA
  obtain ⟨b0, b1, _, _⟩ := box_facts hB
  have HCa : Hid (Calls Tryz.prog 63 #[.agg #[.int .i64 n1, .pointer (some p1)]] W.drew fun e w' => ∃ r, e = .returned r ∧ U32At w' r (limbs x.natAbs) ∧ Below W.heap.size W w') :=
    (limbs_any x _ W.drew (show BigAt W.drew _ x from HA'.out)).mono fun e w' ⟨r, h1, h2, h3⟩ => ⟨r, h1, h2, (Below.refl W.heap.size W).drew.trans h3⟩
  have HCb : Hid (∀ w1, Below W.heap.size W w1 → Calls Tryz.prog 63 #[.agg #[.int .i64 n2, .pointer q2]] w1 fun e w' => ∃ r, e = .returned r ∧ U32At w' r (limbs y.natAbs) ∧ Below w1.heap.size w1 w') :=
    fun w1 h => limbs_any y _ w1 (HB'.out.below h)
  clear hW
  go_region_with (first
    | (go_at_call 63; refine calls_at HCa.out (by with_reducible rfl) (by with_reducible rfl) ?_; rintro e w1 ⟨xv, rfl, hUx, hb1⟩; have hB1 := (hb1.block (w.heap.size + 1) (by omega)).trans hB; obtain ⟨b01, b11, _, _⟩ := box_facts hB1; obtain ⟨xa, xc, hxv, _⟩ := hUx.form; subst hxv)
    | (go_at_call 63; refine calls_at (HCb.out _ hb1) (by with_reducible rfl) (by with_reducible rfl) ?_; rintro e w2 ⟨yv, rfl, hUy, hb2⟩; obtain ⟨ya, yc, hyv, _⟩ := hUy.form; subst hyv))
  all_goals
    have HUx : Hid (U32At w2 (.slice xa (limbs x.natAbs).length xc) (limbs x.natAbs)) := hUx.below hb2
    have HUy : Hid (U32At w2 (.slice ya (limbs y.natAbs).length yc) (limbs y.natAbs)) := hUy
    have hBe : Below W.heap.size W w2 := hb1.trans (hb2.mono hb1.size)
    clear hUx hUy b01 b11 hB1 a0 a1 b0 b1 HCa HCb hb2 hb1
    have hA2 := (hBe.block w.heap.size (by omega)).trans hA
    have hB2 := (hBe.block (w.heap.size + 1) (by omega)).trans hB
    obtain ⟨a0, a1, _, _⟩ := box_facts hA2
    obtain ⟨b0, b1, _, _⟩ := box_facts hB2
    go_wp2_with fail
    have HNa : Hid (∀ w', Two w2 w.heap.size n1 n2 (some p1) q2 w' → Calls Tryz.prog 46 #[.agg #[.int .i64 n1, .pointer (some p1)]] w' fun e w'' => e = .returned (.bool d1) ∧ Below w'.heap.size w' w'') :=
      fun w' h => by rw [E1.out]; exact negative_big x _ w' (HA'.out.below (hBe.trans (h.2.2.2.2.2.mono hBe.size)))
    have HNb : Hid (∀ w', Two w2 w.heap.size n1 n2 (some p1) q2 w' → Calls Tryz.prog 46 #[.agg #[.int .i64 n2, .pointer q2]] w' fun e w'' => e = .returned (.bool d2) ∧ Below w'.heap.size w' w'') :=
      fun w' h => by rw [E2.out]; exact negative_big y _ w' (HB'.out.below (hBe.trans (h.2.2.2.2.2.mono hBe.size)))
    have hS : Two w2 w.heap.size n1 n2 (some p1) q2 w2.drew := Two.next ⟨a0, a1, b0, b1, by have := hBe.size; omega, Below.refl _ _⟩ (Below.refl _ _).drew
    go_region_held3 (fun w' => w'.cell? ⟨w.heap.size, 0, none⟩ = some (.int .i64 n1) ∧ w'.cell? ⟨w.heap.size, 1, none⟩ = some (.pointer (some p1)) ∧ w'.cell? ⟨w.heap.size + 1, 0, none⟩ = some (.int .i64 n2) ∧ w'.cell? ⟨w.heap.size + 1, 1, none⟩ = some (.pointer q2) ∧ w.heap.size + 1 < w'.heap.size ∧ Below w2.heap.size w2 w')
      (first | exact hS | (refine Two.next (by assumption) (by assumption)))
      (first
        | (go_at_call 46; refine calls_at (HNa.out _ (by assumption)) (by with_reducible rfl) (by with_reducible rfl) ?_; rintro e w' ⟨rfl, hb⟩)
        | (go_at_call 46; refine calls_at (HNb.out _ (by assumption)) (by with_reducible rfl) (by with_reducible rfl) ?_; rintro e w' ⟨rfl, hb⟩))
    rename_i hHeld
    have hWw : Below W.heap.size W w' := hBe.trans (hHeld.2.2.2.2.2.mono hBe.size)
    have HUx' : Hid (U32At w' (.slice xa (limbs x.natAbs).length xc) (limbs x.natAbs)) := HUx.out.below hHeld.2.2.2.2.2
    have HUy' : Hid (U32At w' (.slice ya (limbs y.natAbs).length yc) (limbs y.natAbs)) := HUy.out.below hHeld.2.2.2.2.2
    by_cases hd : d1 = d2
    · have HE : Hid (sg d1 (x.natAbs + y.natAbs) = x + y) := by
        show _ = _
        have h := hd
        rw [E1.out, E2.out] at h
        rw [E1.out]; exact sum_same h
      have hdb : (d1 == d2) = true := by simp [hd]
      rw [hdb]
      clear hd hdb
      go_wp2_with fail
      refine (HNa.out _ hHeld).mono ?_
      rintro e w4 ⟨rfl, hb4⟩
      go_wp2_with fail
      refine (addLimbs_any x.natAbs y.natAbs _ _ _ (HUx'.out.below hb4) (HUy'.out.below hb4) (by omega) (by omega)).mono ?_
      rintro e w5 ⟨sv, rfl, hUs, hb5, _⟩
      obtain ⟨sa, sc, hsv, _⟩ := hUs.form
      subst hsv
      go_wp2_with fail
      refine (settled_any d1 (x.natAbs + y.natAbs) _ _ hUs).mono ?_
      rintro e w6 ⟨r, rfl, hr, hb6⟩
      have hb25 : Below W.heap.size W w6 := hWw.trans ((hb4.mono hWw.size).trans ((hb5.mono (Nat.le_trans hWw.size hb4.size)).trans (hb6.mono (Nat.le_trans hWw.size (Nat.le_trans hb4.size hb5.size)))))
      have hR5 := (hb25.block (w.heap.size + 1 + 1) (by omega)).trans hR
      obtain ⟨r0, r1, r2, r3⟩ := box_facts hR5
      obtain ⟨y3, q3, hr3⟩ := hr.shape
      subst hr3
      obtain ⟨m0, m1⟩ := box_set hR5 (.int .i64 y3) (.pointer q3)
      rw [HE.out] at hr
      go_wp2
      exact bodyPost_ret (v := .agg #[.int .i64 y3, .pointer q3]) (by simp [results, Tryz.results29, go_sem, m0, m1]) rfl ⟨_, rfl, hr.setBox hR5 _ _, ((hBW.trans (hb25.mono hBW.size)).setCell (p := ⟨w.heap.size + 1 + 1, 0, none⟩) (by show w.heap.size ≤ w.heap.size + 1 + 1; omega) _).setCell (p := ⟨w.heap.size + 1 + 1, 1, none⟩) (by show w.heap.size ≤ w.heap.size + 1 + 1; omega) _⟩
    · have hdb : (d1 == d2) = false := by simp [hd]
      rw [hdb]
      clear hdb
      by_cases hlt : x.natAbs < y.natAbs
      · have HE : Hid (sg d2 (y.natAbs - x.natAbs) = x + y) := by
          show _ = _
          have h := hd
          rw [E1.out, E2.out] at h
          rw [E2.out]; exact sum_lt h (by omega)
        have hcm : decide (cmpI (x.natAbs : Int) (y.natAbs : Int) < 0) = true := by
          rw [cmpI_lt (by omega)]; rfl
        clear hd
        go_wp2_with fail
        refine (compareLimbs_any x.natAbs y.natAbs _ _ _ HUx'.out HUy'.out (by omega)).mono ?_
        rintro e w3 ⟨rfl, hb3⟩
        have hT3 : Two w2 w.heap.size n1 n2 (some p1) q2 w3 := Two.next hHeld hb3
        obtain ⟨t0, t1, t2, t3, _, _⟩ := hT3
        have hT3' : Hid (Two w2 w.heap.size n1 n2 (some p1) q2 w3) := Two.next hHeld hb3
        generalize cmpI (x.natAbs : Int) (y.natAbs : Int) = cm at *
        go_wp2_with fail
        refine (HNb.out _ hT3'.out).mono ?_
        rintro e w4 ⟨rfl, hb4⟩
        go_wp2_with fail
        refine (subLimbs_any y.natAbs x.natAbs _ _ _ ((HUy'.out.below hb3).below hb4) ((HUx'.out.below hb3).below hb4) (by omega) (by omega)).mono ?_
        rintro e w5 ⟨sv, rfl, hUs, hb5⟩
        obtain ⟨sa, sc, hsv, _⟩ := hUs.form
        subst hsv
        go_wp2_with fail
        refine (settled_any d2 (y.natAbs - x.natAbs) _ _ hUs).mono ?_
        rintro e w6 ⟨r, rfl, hr, hb6⟩
        have hb34 : Below W.heap.size W w4 := hWw.trans ((hb3.mono hWw.size).trans (hb4.mono (Nat.le_trans hWw.size hb3.size)))
        have hb25 : Below W.heap.size W w6 := hb34.trans ((hb5.mono hb34.size).trans (hb6.mono (Nat.le_trans hb34.size hb5.size)))
        have hR5 := (hb25.block (w.heap.size + 1 + 1) (by omega)).trans hR
        obtain ⟨r0, r1, r2, r3⟩ := box_facts hR5
        obtain ⟨y3, q3, hr3⟩ := hr.shape
        subst hr3
        obtain ⟨m0, m1⟩ := box_set hR5 (.int .i64 y3) (.pointer q3)
        rw [HE.out] at hr
        go_wp2
        exact bodyPost_ret (v := .agg #[.int .i64 y3, .pointer q3]) (by simp [results, Tryz.results29, go_sem, m0, m1]) rfl ⟨_, rfl, hr.setBox hR5 _ _, ((hBW.trans (hb25.mono hBW.size)).setCell (p := ⟨w.heap.size + 1 + 1, 0, none⟩) (by show w.heap.size ≤ w.heap.size + 1 + 1; omega) _).setCell (p := ⟨w.heap.size + 1 + 1, 1, none⟩) (by show w.heap.size ≤ w.heap.size + 1 + 1; omega) _⟩
      · have HE : Hid (sg d1 (x.natAbs - y.natAbs) = x + y) := by
          show _ = _
          have h := hd
          rw [E1.out, E2.out] at h
          rw [E1.out]; exact sum_ge h (by omega)
        have hcm : decide (cmpI (x.natAbs : Int) (y.natAbs : Int) < 0) = false := by
          rcases Nat.lt_or_ge y.natAbs x.natAbs with h | h
          · rw [cmpI_gt (by omega)]; rfl
          · rw [cmpI_eq (by omega) (by omega)]; rfl
        clear hd
        go_wp2_with fail
        refine (compareLimbs_any x.natAbs y.natAbs _ _ _ HUx'.out HUy'.out (by omega)).mono ?_
        rintro e w3 ⟨rfl, hb3⟩
        have hT3 : Two w2 w.heap.size n1 n2 (some p1) q2 w3 := Two.next hHeld hb3
        obtain ⟨t0, t1, t2, t3, _, _⟩ := hT3
        have hT3' : Hid (Two w2 w.heap.size n1 n2 (some p1) q2 w3) := Two.next hHeld hb3
        generalize cmpI (x.natAbs : Int) (y.natAbs : Int) = cm at *
        go_wp2_with fail
        refine (HNa.out _ hT3'.out).mono ?_
        rintro e w4 ⟨rfl, hb4⟩
        go_wp2_with fail
        refine (subLimbs_any x.natAbs y.natAbs _ _ _ ((HUx'.out.below hb3).below hb4) ((HUy'.out.below hb3).below hb4) (by omega) (by omega)).mono ?_
        rintro e w5 ⟨sv, rfl, hUs, hb5⟩
        obtain ⟨sa, sc, hsv, _⟩ := hUs.form
        subst hsv
        go_wp2_with fail
        refine (settled_any d1 (x.natAbs - y.natAbs) _ _ hUs).mono ?_
        rintro e w6 ⟨r, rfl, hr, hb6⟩
        have hb34 : Below W.heap.size W w4 := hWw.trans ((hb3.mono hWw.size).trans (hb4.mono (Nat.le_trans hWw.size hb3.size)))
        have hb25 : Below W.heap.size W w6 := hb34.trans ((hb5.mono hb34.size).trans (hb6.mono (Nat.le_trans hb34.size hb5.size)))
        have hR5 := (hb25.block (w.heap.size + 1 + 1) (by omega)).trans hR
        obtain ⟨r0, r1, r2, r3⟩ := box_facts hR5
        obtain ⟨y3, q3, hr3⟩ := hr.shape
        subst hr3
        obtain ⟨m0, m1⟩ := box_set hR5 (.int .i64 y3) (.pointer q3)
        rw [HE.out] at hr
        go_wp2
        exact bodyPost_ret (v := .agg #[.int .i64 y3, .pointer q3]) (by simp [results, Tryz.results29, go_sem, m0, m1]) rfl ⟨_, rfl, hr.setBox hR5 _ _, ((hBW.trans (hb25.mono hBW.size)).setCell (p := ⟨w.heap.size + 1 + 1, 0, none⟩) (by show w.heap.size ≤ w.heap.size + 1 + 1; omega) _).setCell (p := ⟨w.heap.size + 1 + 1, 1, none⟩) (by show w.heap.size ≤ w.heap.size + 1 + 1; omega) _⟩

set_option maxRecDepth 100000 in
set_option maxHeartbeats 1000000 in
/-- Add, where b is no int. -/
theorem add_wideB (x y : Int) (n1 n2 : Int) (p2 : Addr) (w : World) (HA : Hid (BigAt w (.agg #[.int .i64 n1, .pointer none]) x)) (HB : Hid (BigAt w (.agg #[.int .i64 n2, .pointer (some p2)]) y))  (hx : (limbs x.natAbs).length ≤ 1000000) (hy : (limbs y.natAbs).length ≤ 1000000) :
    Calls Tryz.prog 29 #[.agg #[.int .i64 n1, .pointer none], .agg #[.int .i64 n2, .pointer (some p2)]] w fun e w' => ∃ r, e = .returned r ∧ BigAt w' r (x + y) ∧ Below w.heap.size w w' := by
  obtain ⟨d1, E1⟩ : ∃ d1, Hid (d1 = decide (x < 0)) := ⟨_, rfl⟩
  obtain ⟨d2, E2⟩ : ∃ d2, Hid (d2 = decide (y < 0)) := ⟨_, rfl⟩
  go_enter Tryz.func29, Tryz.ntmps29
  go_wp2_with fail
  generalize hW : ((w.alloc (.cells #[.int .i64 n1, .pointer none] 33)).alloc (.cells #[.int .i64 n2, .pointer (some p2)] 33)).alloc (.cells #[.int .i64 0, .pointer none] 33) = W
  obtain ⟨hA, hB, hR, hBW, hsz⟩ := three_boxes w n1 n2 none (some p2) hW
  have HA' : Hid (BigAt W (.agg #[.int .i64 n1, .pointer none]) x) := HA.out.below hBW
  have HB' : Hid (BigAt W (.agg #[.int .i64 n2, .pointer (some p2)]) y) := HB.out.below hBW
  obtain ⟨a0, a1, _, _⟩ := box_facts hA
  obtain ⟨b0, b1, _, _⟩ := box_facts hB
  have HCa : Hid (Calls Tryz.prog 63 #[.agg #[.int .i64 n1, .pointer none]] W.drew fun e w' => ∃ r, e = .returned r ∧ U32At w' r (limbs x.natAbs) ∧ Below W.heap.size W w') :=
    (limbs_any x _ W.drew (show BigAt W.drew _ x from HA'.out)).mono fun e w' ⟨r, h1, h2, h3⟩ => ⟨r, h1, h2, (Below.refl W.heap.size W).drew.trans h3⟩
  have HCb : Hid (∀ w1, Below W.heap.size W w1 → Calls Tryz.prog 63 #[.agg #[.int .i64 n2, .pointer (some p2)]] w1 fun e w' => ∃ r, e = .returned r ∧ U32At w' r (limbs y.natAbs) ∧ Below w1.heap.size w1 w') :=
    fun w1 h => limbs_any y _ w1 (HB'.out.below h)
  clear hW
  go_region_with (first
    | (go_at_call 63; refine calls_at HCa.out (by with_reducible rfl) (by with_reducible rfl) ?_; rintro e w1 ⟨xv, rfl, hUx, hb1⟩; have hB1 := (hb1.block (w.heap.size + 1) (by omega)).trans hB; obtain ⟨b01, b11, _, _⟩ := box_facts hB1; obtain ⟨xa, xc, hxv, _⟩ := hUx.form; subst hxv)
    | (go_at_call 63; refine calls_at (HCb.out _ hb1) (by with_reducible rfl) (by with_reducible rfl) ?_; rintro e w2 ⟨yv, rfl, hUy, hb2⟩; obtain ⟨ya, yc, hyv, _⟩ := hUy.form; subst hyv))
  all_goals
    have HUx : Hid (U32At w2 (.slice xa (limbs x.natAbs).length xc) (limbs x.natAbs)) := hUx.below hb2
    have HUy : Hid (U32At w2 (.slice ya (limbs y.natAbs).length yc) (limbs y.natAbs)) := hUy
    have hBe : Below W.heap.size W w2 := hb1.trans (hb2.mono hb1.size)
    clear hUx hUy b01 b11 hB1 a0 a1 b0 b1 HCa HCb hb2 hb1
    have hA2 := (hBe.block w.heap.size (by omega)).trans hA
    have hB2 := (hBe.block (w.heap.size + 1) (by omega)).trans hB
    obtain ⟨a0, a1, _, _⟩ := box_facts hA2
    obtain ⟨b0, b1, _, _⟩ := box_facts hB2
    go_wp2_with fail
    have HNa : Hid (∀ w', Two w2 w.heap.size n1 n2 none (some p2) w' → Calls Tryz.prog 46 #[.agg #[.int .i64 n1, .pointer none]] w' fun e w'' => e = .returned (.bool d1) ∧ Below w'.heap.size w' w'') :=
      fun w' h => by rw [E1.out]; exact negative_big x _ w' (HA'.out.below (hBe.trans (h.2.2.2.2.2.mono hBe.size)))
    have HNb : Hid (∀ w', Two w2 w.heap.size n1 n2 none (some p2) w' → Calls Tryz.prog 46 #[.agg #[.int .i64 n2, .pointer (some p2)]] w' fun e w'' => e = .returned (.bool d2) ∧ Below w'.heap.size w' w'') :=
      fun w' h => by rw [E2.out]; exact negative_big y _ w' (HB'.out.below (hBe.trans (h.2.2.2.2.2.mono hBe.size)))
    have hS : Two w2 w.heap.size n1 n2 none (some p2) w2.drew := Two.next ⟨a0, a1, b0, b1, by have := hBe.size; omega, Below.refl _ _⟩ (Below.refl _ _).drew
    go_region_held3 (fun w' => w'.cell? ⟨w.heap.size, 0, none⟩ = some (.int .i64 n1) ∧ w'.cell? ⟨w.heap.size, 1, none⟩ = some (.pointer none) ∧ w'.cell? ⟨w.heap.size + 1, 0, none⟩ = some (.int .i64 n2) ∧ w'.cell? ⟨w.heap.size + 1, 1, none⟩ = some (.pointer (some p2)) ∧ w.heap.size + 1 < w'.heap.size ∧ Below w2.heap.size w2 w')
      (first | exact hS | (refine Two.next (by assumption) (by assumption)))
      (first
        | (go_at_call 46; refine calls_at (HNa.out _ (by assumption)) (by with_reducible rfl) (by with_reducible rfl) ?_; rintro e w' ⟨rfl, hb⟩)
        | (go_at_call 46; refine calls_at (HNb.out _ (by assumption)) (by with_reducible rfl) (by with_reducible rfl) ?_; rintro e w' ⟨rfl, hb⟩))
    rename_i hHeld
    have hWw : Below W.heap.size W w' := hBe.trans (hHeld.2.2.2.2.2.mono hBe.size)
    have HUx' : Hid (U32At w' (.slice xa (limbs x.natAbs).length xc) (limbs x.natAbs)) := HUx.out.below hHeld.2.2.2.2.2
    have HUy' : Hid (U32At w' (.slice ya (limbs y.natAbs).length yc) (limbs y.natAbs)) := HUy.out.below hHeld.2.2.2.2.2
    by_cases hd : d1 = d2
    · have HE : Hid (sg d1 (x.natAbs + y.natAbs) = x + y) := by
        show _ = _
        have h := hd
        rw [E1.out, E2.out] at h
        rw [E1.out]; exact sum_same h
      have hdb : (d1 == d2) = true := by simp [hd]
      rw [hdb]
      clear hd hdb
      go_wp2_with fail
      refine (HNa.out _ hHeld).mono ?_
      rintro e w4 ⟨rfl, hb4⟩
      go_wp2_with fail
      refine (addLimbs_any x.natAbs y.natAbs _ _ _ (HUx'.out.below hb4) (HUy'.out.below hb4) (by omega) (by omega)).mono ?_
      rintro e w5 ⟨sv, rfl, hUs, hb5, _⟩
      obtain ⟨sa, sc, hsv, _⟩ := hUs.form
      subst hsv
      go_wp2_with fail
      refine (settled_any d1 (x.natAbs + y.natAbs) _ _ hUs).mono ?_
      rintro e w6 ⟨r, rfl, hr, hb6⟩
      have hb25 : Below W.heap.size W w6 := hWw.trans ((hb4.mono hWw.size).trans ((hb5.mono (Nat.le_trans hWw.size hb4.size)).trans (hb6.mono (Nat.le_trans hWw.size (Nat.le_trans hb4.size hb5.size)))))
      have hR5 := (hb25.block (w.heap.size + 1 + 1) (by omega)).trans hR
      obtain ⟨r0, r1, r2, r3⟩ := box_facts hR5
      obtain ⟨y3, q3, hr3⟩ := hr.shape
      subst hr3
      obtain ⟨m0, m1⟩ := box_set hR5 (.int .i64 y3) (.pointer q3)
      rw [HE.out] at hr
      go_wp2
      exact bodyPost_ret (v := .agg #[.int .i64 y3, .pointer q3]) (by simp [results, Tryz.results29, go_sem, m0, m1]) rfl ⟨_, rfl, hr.setBox hR5 _ _, ((hBW.trans (hb25.mono hBW.size)).setCell (p := ⟨w.heap.size + 1 + 1, 0, none⟩) (by show w.heap.size ≤ w.heap.size + 1 + 1; omega) _).setCell (p := ⟨w.heap.size + 1 + 1, 1, none⟩) (by show w.heap.size ≤ w.heap.size + 1 + 1; omega) _⟩
    · have hdb : (d1 == d2) = false := by simp [hd]
      rw [hdb]
      clear hdb
      by_cases hlt : x.natAbs < y.natAbs
      · have HE : Hid (sg d2 (y.natAbs - x.natAbs) = x + y) := by
          show _ = _
          have h := hd
          rw [E1.out, E2.out] at h
          rw [E2.out]; exact sum_lt h (by omega)
        have hcm : decide (cmpI (x.natAbs : Int) (y.natAbs : Int) < 0) = true := by
          rw [cmpI_lt (by omega)]; rfl
        clear hd
        go_wp2_with fail
        refine (compareLimbs_any x.natAbs y.natAbs _ _ _ HUx'.out HUy'.out (by omega)).mono ?_
        rintro e w3 ⟨rfl, hb3⟩
        have hT3 : Two w2 w.heap.size n1 n2 none (some p2) w3 := Two.next hHeld hb3
        obtain ⟨t0, t1, t2, t3, _, _⟩ := hT3
        have hT3' : Hid (Two w2 w.heap.size n1 n2 none (some p2) w3) := Two.next hHeld hb3
        generalize cmpI (x.natAbs : Int) (y.natAbs : Int) = cm at *
        go_wp2_with fail
        refine (HNb.out _ hT3'.out).mono ?_
        rintro e w4 ⟨rfl, hb4⟩
        go_wp2_with fail
        refine (subLimbs_any y.natAbs x.natAbs _ _ _ ((HUy'.out.below hb3).below hb4) ((HUx'.out.below hb3).below hb4) (by omega) (by omega)).mono ?_
        rintro e w5 ⟨sv, rfl, hUs, hb5⟩
        obtain ⟨sa, sc, hsv, _⟩ := hUs.form
        subst hsv
        go_wp2_with fail
        refine (settled_any d2 (y.natAbs - x.natAbs) _ _ hUs).mono ?_
        rintro e w6 ⟨r, rfl, hr, hb6⟩
        have hb34 : Below W.heap.size W w4 := hWw.trans ((hb3.mono hWw.size).trans (hb4.mono (Nat.le_trans hWw.size hb3.size)))
        have hb25 : Below W.heap.size W w6 := hb34.trans ((hb5.mono hb34.size).trans (hb6.mono (Nat.le_trans hb34.size hb5.size)))
        have hR5 := (hb25.block (w.heap.size + 1 + 1) (by omega)).trans hR
        obtain ⟨r0, r1, r2, r3⟩ := box_facts hR5
        obtain ⟨y3, q3, hr3⟩ := hr.shape
        subst hr3
        obtain ⟨m0, m1⟩ := box_set hR5 (.int .i64 y3) (.pointer q3)
        rw [HE.out] at hr
        go_wp2
        exact bodyPost_ret (v := .agg #[.int .i64 y3, .pointer q3]) (by simp [results, Tryz.results29, go_sem, m0, m1]) rfl ⟨_, rfl, hr.setBox hR5 _ _, ((hBW.trans (hb25.mono hBW.size)).setCell (p := ⟨w.heap.size + 1 + 1, 0, none⟩) (by show w.heap.size ≤ w.heap.size + 1 + 1; omega) _).setCell (p := ⟨w.heap.size + 1 + 1, 1, none⟩) (by show w.heap.size ≤ w.heap.size + 1 + 1; omega) _⟩
      · have HE : Hid (sg d1 (x.natAbs - y.natAbs) = x + y) := by
          show _ = _
          have h := hd
          rw [E1.out, E2.out] at h
          rw [E1.out]; exact sum_ge h (by omega)
        have hcm : decide (cmpI (x.natAbs : Int) (y.natAbs : Int) < 0) = false := by
          rcases Nat.lt_or_ge y.natAbs x.natAbs with h | h
          · rw [cmpI_gt (by omega)]; rfl
          · rw [cmpI_eq (by omega) (by omega)]; rfl
        clear hd
        go_wp2_with fail
        refine (compareLimbs_any x.natAbs y.natAbs _ _ _ HUx'.out HUy'.out (by omega)).mono ?_
        rintro e w3 ⟨rfl, hb3⟩
        have hT3 : Two w2 w.heap.size n1 n2 none (some p2) w3 := Two.next hHeld hb3
        obtain ⟨t0, t1, t2, t3, _, _⟩ := hT3
        have hT3' : Hid (Two w2 w.heap.size n1 n2 none (some p2) w3) := Two.next hHeld hb3
        generalize cmpI (x.natAbs : Int) (y.natAbs : Int) = cm at *
        go_wp2_with fail
        refine (HNa.out _ hT3'.out).mono ?_
        rintro e w4 ⟨rfl, hb4⟩
        go_wp2_with fail
        refine (subLimbs_any x.natAbs y.natAbs _ _ _ ((HUx'.out.below hb3).below hb4) ((HUy'.out.below hb3).below hb4) (by omega) (by omega)).mono ?_
        rintro e w5 ⟨sv, rfl, hUs, hb5⟩
        obtain ⟨sa, sc, hsv, _⟩ := hUs.form
        subst hsv
        go_wp2_with fail
        refine (settled_any d1 (x.natAbs - y.natAbs) _ _ hUs).mono ?_
        rintro e w6 ⟨r, rfl, hr, hb6⟩
        have hb34 : Below W.heap.size W w4 := hWw.trans ((hb3.mono hWw.size).trans (hb4.mono (Nat.le_trans hWw.size hb3.size)))
        have hb25 : Below W.heap.size W w6 := hb34.trans ((hb5.mono hb34.size).trans (hb6.mono (Nat.le_trans hb34.size hb5.size)))
        have hR5 := (hb25.block (w.heap.size + 1 + 1) (by omega)).trans hR
        obtain ⟨r0, r1, r2, r3⟩ := box_facts hR5
        obtain ⟨y3, q3, hr3⟩ := hr.shape
        subst hr3
        obtain ⟨m0, m1⟩ := box_set hR5 (.int .i64 y3) (.pointer q3)
        rw [HE.out] at hr
        go_wp2
        exact bodyPost_ret (v := .agg #[.int .i64 y3, .pointer q3]) (by simp [results, Tryz.results29, go_sem, m0, m1]) rfl ⟨_, rfl, hr.setBox hR5 _ _, ((hBW.trans (hb25.mono hBW.size)).setCell (p := ⟨w.heap.size + 1 + 1, 0, none⟩) (by show w.heap.size ≤ w.heap.size + 1 + 1; omega) _).setCell (p := ⟨w.heap.size + 1 + 1, 1, none⟩) (by show w.heap.size ≤ w.heap.size + 1 + 1; omega) _⟩

set_option maxRecDepth 100000 in
set_option maxHeartbeats 1000000 in
/-- Add of two ints whose sum is too great. -/
theorem add_overP (x y : Int) (n1 n2 : Int) (s : Int) (w : World) (HA : Hid (BigAt w (.agg #[.int .i64 n1, .pointer none]) x)) (HB : Hid (BigAt w (.agg #[.int .i64 n2, .pointer none]) y)) (hw : wrap64 (n1 + n2) = s) (hc1 : decide (n1 < s) = false) (hc2 : decide (0 < n2) = true) (hx : (limbs x.natAbs).length ≤ 1000000) (hy : (limbs y.natAbs).length ≤ 1000000) :
    Calls Tryz.prog 29 #[.agg #[.int .i64 n1, .pointer none], .agg #[.int .i64 n2, .pointer none]] w fun e w' => ∃ r, e = .returned r ∧ BigAt w' r (x + y) ∧ Below w.heap.size w w' := by
  obtain ⟨d1, E1⟩ : ∃ d1, Hid (d1 = decide (x < 0)) := ⟨_, rfl⟩
  obtain ⟨d2, E2⟩ : ∃ d2, Hid (d2 = decide (y < 0)) := ⟨_, rfl⟩
  go_enter Tryz.func29, Tryz.ntmps29
  go_wp2_with fail
  generalize hW : ((w.alloc (.cells #[.int .i64 n1, .pointer none] 33)).alloc (.cells #[.int .i64 n2, .pointer none] 33)).alloc (.cells #[.int .i64 0, .pointer none] 33) = W
  obtain ⟨hA, hB, hR, hBW, hsz⟩ := three_boxes w n1 n2 none none hW
  have HA' : Hid (BigAt W (.agg #[.int .i64 n1, .pointer none]) x) := HA.out.below hBW
  have HB' : Hid (BigAt W (.agg #[.int .i64 n2, .pointer none]) y) := HB.out.below hBW
  obtain ⟨a0, a1, _, _⟩ := box_facts hA
  obtain ⟨b0, b1, _, _⟩ := box_facts hB
  have HCa : Hid (Calls Tryz.prog 63 #[.agg #[.int .i64 n1, .pointer none]] W.drew fun e w' => ∃ r, e = .returned r ∧ U32At w' r (limbs x.natAbs) ∧ Below W.heap.size W w') :=
    (limbs_any x _ W.drew (show BigAt W.drew _ x from HA'.out)).mono fun e w' ⟨r, h1, h2, h3⟩ => ⟨r, h1, h2, (Below.refl W.heap.size W).drew.trans h3⟩
  have HCb : Hid (∀ w1, Below W.heap.size W w1 → Calls Tryz.prog 63 #[.agg #[.int .i64 n2, .pointer none]] w1 fun e w' => ∃ r, e = .returned r ∧ U32At w' r (limbs y.natAbs) ∧ Below w1.heap.size w1 w') :=
    fun w1 h => limbs_any y _ w1 (HB'.out.below h)
  clear hW
  go_region_with (first
    | (go_at_call 63; refine calls_at HCa.out (by with_reducible rfl) (by with_reducible rfl) ?_; rintro e w1 ⟨xv, rfl, hUx, hb1⟩; have hB1 := (hb1.block (w.heap.size + 1) (by omega)).trans hB; obtain ⟨b01, b11, _, _⟩ := box_facts hB1; obtain ⟨xa, xc, hxv, _⟩ := hUx.form; subst hxv)
    | (go_at_call 63; refine calls_at (HCb.out _ hb1) (by with_reducible rfl) (by with_reducible rfl) ?_; rintro e w2 ⟨yv, rfl, hUy, hb2⟩; obtain ⟨ya, yc, hyv, _⟩ := hUy.form; subst hyv))
  all_goals
    have HUx : Hid (U32At w2 (.slice xa (limbs x.natAbs).length xc) (limbs x.natAbs)) := hUx.below hb2
    have HUy : Hid (U32At w2 (.slice ya (limbs y.natAbs).length yc) (limbs y.natAbs)) := hUy
    have hBe : Below W.heap.size W w2 := hb1.trans (hb2.mono hb1.size)
    clear hUx hUy b01 b11 hB1 a0 a1 b0 b1 HCa HCb hb2 hb1
    have hA2 := (hBe.block w.heap.size (by omega)).trans hA
    have hB2 := (hBe.block (w.heap.size + 1) (by omega)).trans hB
    obtain ⟨a0, a1, _, _⟩ := box_facts hA2
    obtain ⟨b0, b1, _, _⟩ := box_facts hB2
    go_wp2_with fail
    have HNa : Hid (∀ w', Two w2 w.heap.size n1 n2 none none w' → Calls Tryz.prog 46 #[.agg #[.int .i64 n1, .pointer none]] w' fun e w'' => e = .returned (.bool d1) ∧ Below w'.heap.size w' w'') :=
      fun w' h => by rw [E1.out]; exact negative_big x _ w' (HA'.out.below (hBe.trans (h.2.2.2.2.2.mono hBe.size)))
    have HNb : Hid (∀ w', Two w2 w.heap.size n1 n2 none none w' → Calls Tryz.prog 46 #[.agg #[.int .i64 n2, .pointer none]] w' fun e w'' => e = .returned (.bool d2) ∧ Below w'.heap.size w' w'') :=
      fun w' h => by rw [E2.out]; exact negative_big y _ w' (HB'.out.below (hBe.trans (h.2.2.2.2.2.mono hBe.size)))
    have hS : Two w2 w.heap.size n1 n2 none none w2.drew := Two.next ⟨a0, a1, b0, b1, by have := hBe.size; omega, Below.refl _ _⟩ (Below.refl _ _).drew
    go_region_held3 (fun w' => w'.cell? ⟨w.heap.size, 0, none⟩ = some (.int .i64 n1) ∧ w'.cell? ⟨w.heap.size, 1, none⟩ = some (.pointer none) ∧ w'.cell? ⟨w.heap.size + 1, 0, none⟩ = some (.int .i64 n2) ∧ w'.cell? ⟨w.heap.size + 1, 1, none⟩ = some (.pointer none) ∧ w.heap.size + 1 < w'.heap.size ∧ Below w2.heap.size w2 w')
      (first | exact hS | (refine Two.next (by assumption) (by assumption)))
      (first
        | (go_at_call 46; refine calls_at (HNa.out _ (by assumption)) (by with_reducible rfl) (by with_reducible rfl) ?_; rintro e w' ⟨rfl, hb⟩)
        | (go_at_call 46; refine calls_at (HNb.out _ (by assumption)) (by with_reducible rfl) (by with_reducible rfl) ?_; rintro e w' ⟨rfl, hb⟩))
    rename_i hHeld
    have hWw : Below W.heap.size W w' := hBe.trans (hHeld.2.2.2.2.2.mono hBe.size)
    have HUx' : Hid (U32At w' (.slice xa (limbs x.natAbs).length xc) (limbs x.natAbs)) := HUx.out.below hHeld.2.2.2.2.2
    have HUy' : Hid (U32At w' (.slice ya (limbs y.natAbs).length yc) (limbs y.natAbs)) := HUy.out.below hHeld.2.2.2.2.2
    by_cases hd : d1 = d2
    · have HE : Hid (sg d1 (x.natAbs + y.natAbs) = x + y) := by
        show _ = _
        have h := hd
        rw [E1.out, E2.out] at h
        rw [E1.out]; exact sum_same h
      have hdb : (d1 == d2) = true := by simp [hd]
      rw [hdb]
      clear hd hdb
      go_wp2_with fail
      refine (HNa.out _ hHeld).mono ?_
      rintro e w4 ⟨rfl, hb4⟩
      go_wp2_with fail
      refine (addLimbs_any x.natAbs y.natAbs _ _ _ (HUx'.out.below hb4) (HUy'.out.below hb4) (by omega) (by omega)).mono ?_
      rintro e w5 ⟨sv, rfl, hUs, hb5, _⟩
      obtain ⟨sa, sc, hsv, _⟩ := hUs.form
      subst hsv
      go_wp2_with fail
      refine (settled_any d1 (x.natAbs + y.natAbs) _ _ hUs).mono ?_
      rintro e w6 ⟨r, rfl, hr, hb6⟩
      have hb25 : Below W.heap.size W w6 := hWw.trans ((hb4.mono hWw.size).trans ((hb5.mono (Nat.le_trans hWw.size hb4.size)).trans (hb6.mono (Nat.le_trans hWw.size (Nat.le_trans hb4.size hb5.size)))))
      have hR5 := (hb25.block (w.heap.size + 1 + 1) (by omega)).trans hR
      obtain ⟨r0, r1, r2, r3⟩ := box_facts hR5
      obtain ⟨y3, q3, hr3⟩ := hr.shape
      subst hr3
      obtain ⟨m0, m1⟩ := box_set hR5 (.int .i64 y3) (.pointer q3)
      rw [HE.out] at hr
      go_wp2
      exact bodyPost_ret (v := .agg #[.int .i64 y3, .pointer q3]) (by simp [results, Tryz.results29, go_sem, m0, m1]) rfl ⟨_, rfl, hr.setBox hR5 _ _, ((hBW.trans (hb25.mono hBW.size)).setCell (p := ⟨w.heap.size + 1 + 1, 0, none⟩) (by show w.heap.size ≤ w.heap.size + 1 + 1; omega) _).setCell (p := ⟨w.heap.size + 1 + 1, 1, none⟩) (by show w.heap.size ≤ w.heap.size + 1 + 1; omega) _⟩
    · have hdb : (d1 == d2) = false := by simp [hd]
      rw [hdb]
      clear hdb
      by_cases hlt : x.natAbs < y.natAbs
      · have HE : Hid (sg d2 (y.natAbs - x.natAbs) = x + y) := by
          show _ = _
          have h := hd
          rw [E1.out, E2.out] at h
          rw [E2.out]; exact sum_lt h (by omega)
        have hcm : decide (cmpI (x.natAbs : Int) (y.natAbs : Int) < 0) = true := by
          rw [cmpI_lt (by omega)]; rfl
        clear hd
        go_wp2_with fail
        refine (compareLimbs_any x.natAbs y.natAbs _ _ _ HUx'.out HUy'.out (by omega)).mono ?_
        rintro e w3 ⟨rfl, hb3⟩
        have hT3 : Two w2 w.heap.size n1 n2 none none w3 := Two.next hHeld hb3
        obtain ⟨t0, t1, t2, t3, _, _⟩ := hT3
        have hT3' : Hid (Two w2 w.heap.size n1 n2 none none w3) := Two.next hHeld hb3
        generalize cmpI (x.natAbs : Int) (y.natAbs : Int) = cm at *
        go_wp2_with fail
        refine (HNb.out _ hT3'.out).mono ?_
        rintro e w4 ⟨rfl, hb4⟩
        go_wp2_with fail
        refine (subLimbs_any y.natAbs x.natAbs _ _ _ ((HUy'.out.below hb3).below hb4) ((HUx'.out.below hb3).below hb4) (by omega) (by omega)).mono ?_
        rintro e w5 ⟨sv, rfl, hUs, hb5⟩
        obtain ⟨sa, sc, hsv, _⟩ := hUs.form
        subst hsv
        go_wp2_with fail
        refine (settled_any d2 (y.natAbs - x.natAbs) _ _ hUs).mono ?_
        rintro e w6 ⟨r, rfl, hr, hb6⟩
        have hb34 : Below W.heap.size W w4 := hWw.trans ((hb3.mono hWw.size).trans (hb4.mono (Nat.le_trans hWw.size hb3.size)))
        have hb25 : Below W.heap.size W w6 := hb34.trans ((hb5.mono hb34.size).trans (hb6.mono (Nat.le_trans hb34.size hb5.size)))
        have hR5 := (hb25.block (w.heap.size + 1 + 1) (by omega)).trans hR
        obtain ⟨r0, r1, r2, r3⟩ := box_facts hR5
        obtain ⟨y3, q3, hr3⟩ := hr.shape
        subst hr3
        obtain ⟨m0, m1⟩ := box_set hR5 (.int .i64 y3) (.pointer q3)
        rw [HE.out] at hr
        go_wp2
        exact bodyPost_ret (v := .agg #[.int .i64 y3, .pointer q3]) (by simp [results, Tryz.results29, go_sem, m0, m1]) rfl ⟨_, rfl, hr.setBox hR5 _ _, ((hBW.trans (hb25.mono hBW.size)).setCell (p := ⟨w.heap.size + 1 + 1, 0, none⟩) (by show w.heap.size ≤ w.heap.size + 1 + 1; omega) _).setCell (p := ⟨w.heap.size + 1 + 1, 1, none⟩) (by show w.heap.size ≤ w.heap.size + 1 + 1; omega) _⟩
      · have HE : Hid (sg d1 (x.natAbs - y.natAbs) = x + y) := by
          show _ = _
          have h := hd
          rw [E1.out, E2.out] at h
          rw [E1.out]; exact sum_ge h (by omega)
        have hcm : decide (cmpI (x.natAbs : Int) (y.natAbs : Int) < 0) = false := by
          rcases Nat.lt_or_ge y.natAbs x.natAbs with h | h
          · rw [cmpI_gt (by omega)]; rfl
          · rw [cmpI_eq (by omega) (by omega)]; rfl
        clear hd
        go_wp2_with fail
        refine (compareLimbs_any x.natAbs y.natAbs _ _ _ HUx'.out HUy'.out (by omega)).mono ?_
        rintro e w3 ⟨rfl, hb3⟩
        have hT3 : Two w2 w.heap.size n1 n2 none none w3 := Two.next hHeld hb3
        obtain ⟨t0, t1, t2, t3, _, _⟩ := hT3
        have hT3' : Hid (Two w2 w.heap.size n1 n2 none none w3) := Two.next hHeld hb3
        generalize cmpI (x.natAbs : Int) (y.natAbs : Int) = cm at *
        go_wp2_with fail
        refine (HNa.out _ hT3'.out).mono ?_
        rintro e w4 ⟨rfl, hb4⟩
        go_wp2_with fail
        refine (subLimbs_any x.natAbs y.natAbs _ _ _ ((HUx'.out.below hb3).below hb4) ((HUy'.out.below hb3).below hb4) (by omega) (by omega)).mono ?_
        rintro e w5 ⟨sv, rfl, hUs, hb5⟩
        obtain ⟨sa, sc, hsv, _⟩ := hUs.form
        subst hsv
        go_wp2_with fail
        refine (settled_any d1 (x.natAbs - y.natAbs) _ _ hUs).mono ?_
        rintro e w6 ⟨r, rfl, hr, hb6⟩
        have hb34 : Below W.heap.size W w4 := hWw.trans ((hb3.mono hWw.size).trans (hb4.mono (Nat.le_trans hWw.size hb3.size)))
        have hb25 : Below W.heap.size W w6 := hb34.trans ((hb5.mono hb34.size).trans (hb6.mono (Nat.le_trans hb34.size hb5.size)))
        have hR5 := (hb25.block (w.heap.size + 1 + 1) (by omega)).trans hR
        obtain ⟨r0, r1, r2, r3⟩ := box_facts hR5
        obtain ⟨y3, q3, hr3⟩ := hr.shape
        subst hr3
        obtain ⟨m0, m1⟩ := box_set hR5 (.int .i64 y3) (.pointer q3)
        rw [HE.out] at hr
        go_wp2
        exact bodyPost_ret (v := .agg #[.int .i64 y3, .pointer q3]) (by simp [results, Tryz.results29, go_sem, m0, m1]) rfl ⟨_, rfl, hr.setBox hR5 _ _, ((hBW.trans (hb25.mono hBW.size)).setCell (p := ⟨w.heap.size + 1 + 1, 0, none⟩) (by show w.heap.size ≤ w.heap.size + 1 + 1; omega) _).setCell (p := ⟨w.heap.size + 1 + 1, 1, none⟩) (by show w.heap.size ≤ w.heap.size + 1 + 1; omega) _⟩

set_option maxRecDepth 100000 in
set_option maxHeartbeats 1000000 in
/-- Add of two ints whose sum is too small. -/
theorem add_overN (x y : Int) (n1 n2 : Int) (s : Int) (w : World) (HA : Hid (BigAt w (.agg #[.int .i64 n1, .pointer none]) x)) (HB : Hid (BigAt w (.agg #[.int .i64 n2, .pointer none]) y)) (hw : wrap64 (n1 + n2) = s) (hc1 : decide (n1 < s) = true) (hc2 : decide (0 < n2) = false) (hx : (limbs x.natAbs).length ≤ 1000000) (hy : (limbs y.natAbs).length ≤ 1000000) :
    Calls Tryz.prog 29 #[.agg #[.int .i64 n1, .pointer none], .agg #[.int .i64 n2, .pointer none]] w fun e w' => ∃ r, e = .returned r ∧ BigAt w' r (x + y) ∧ Below w.heap.size w w' := by
  obtain ⟨d1, E1⟩ : ∃ d1, Hid (d1 = decide (x < 0)) := ⟨_, rfl⟩
  obtain ⟨d2, E2⟩ : ∃ d2, Hid (d2 = decide (y < 0)) := ⟨_, rfl⟩
  go_enter Tryz.func29, Tryz.ntmps29
  go_wp2_with fail
  generalize hW : ((w.alloc (.cells #[.int .i64 n1, .pointer none] 33)).alloc (.cells #[.int .i64 n2, .pointer none] 33)).alloc (.cells #[.int .i64 0, .pointer none] 33) = W
  obtain ⟨hA, hB, hR, hBW, hsz⟩ := three_boxes w n1 n2 none none hW
  have HA' : Hid (BigAt W (.agg #[.int .i64 n1, .pointer none]) x) := HA.out.below hBW
  have HB' : Hid (BigAt W (.agg #[.int .i64 n2, .pointer none]) y) := HB.out.below hBW
  obtain ⟨a0, a1, _, _⟩ := box_facts hA
  obtain ⟨b0, b1, _, _⟩ := box_facts hB
  have HCa : Hid (Calls Tryz.prog 63 #[.agg #[.int .i64 n1, .pointer none]] W.drew fun e w' => ∃ r, e = .returned r ∧ U32At w' r (limbs x.natAbs) ∧ Below W.heap.size W w') :=
    (limbs_any x _ W.drew (show BigAt W.drew _ x from HA'.out)).mono fun e w' ⟨r, h1, h2, h3⟩ => ⟨r, h1, h2, (Below.refl W.heap.size W).drew.trans h3⟩
  have HCb : Hid (∀ w1, Below W.heap.size W w1 → Calls Tryz.prog 63 #[.agg #[.int .i64 n2, .pointer none]] w1 fun e w' => ∃ r, e = .returned r ∧ U32At w' r (limbs y.natAbs) ∧ Below w1.heap.size w1 w') :=
    fun w1 h => limbs_any y _ w1 (HB'.out.below h)
  clear hW
  go_region_with (first
    | (go_at_call 63; refine calls_at HCa.out (by with_reducible rfl) (by with_reducible rfl) ?_; rintro e w1 ⟨xv, rfl, hUx, hb1⟩; have hB1 := (hb1.block (w.heap.size + 1) (by omega)).trans hB; obtain ⟨b01, b11, _, _⟩ := box_facts hB1; obtain ⟨xa, xc, hxv, _⟩ := hUx.form; subst hxv)
    | (go_at_call 63; refine calls_at (HCb.out _ hb1) (by with_reducible rfl) (by with_reducible rfl) ?_; rintro e w2 ⟨yv, rfl, hUy, hb2⟩; obtain ⟨ya, yc, hyv, _⟩ := hUy.form; subst hyv))
  all_goals
    have HUx : Hid (U32At w2 (.slice xa (limbs x.natAbs).length xc) (limbs x.natAbs)) := hUx.below hb2
    have HUy : Hid (U32At w2 (.slice ya (limbs y.natAbs).length yc) (limbs y.natAbs)) := hUy
    have hBe : Below W.heap.size W w2 := hb1.trans (hb2.mono hb1.size)
    clear hUx hUy b01 b11 hB1 a0 a1 b0 b1 HCa HCb hb2 hb1
    have hA2 := (hBe.block w.heap.size (by omega)).trans hA
    have hB2 := (hBe.block (w.heap.size + 1) (by omega)).trans hB
    obtain ⟨a0, a1, _, _⟩ := box_facts hA2
    obtain ⟨b0, b1, _, _⟩ := box_facts hB2
    go_wp2_with fail
    have HNa : Hid (∀ w', Two w2 w.heap.size n1 n2 none none w' → Calls Tryz.prog 46 #[.agg #[.int .i64 n1, .pointer none]] w' fun e w'' => e = .returned (.bool d1) ∧ Below w'.heap.size w' w'') :=
      fun w' h => by rw [E1.out]; exact negative_big x _ w' (HA'.out.below (hBe.trans (h.2.2.2.2.2.mono hBe.size)))
    have HNb : Hid (∀ w', Two w2 w.heap.size n1 n2 none none w' → Calls Tryz.prog 46 #[.agg #[.int .i64 n2, .pointer none]] w' fun e w'' => e = .returned (.bool d2) ∧ Below w'.heap.size w' w'') :=
      fun w' h => by rw [E2.out]; exact negative_big y _ w' (HB'.out.below (hBe.trans (h.2.2.2.2.2.mono hBe.size)))
    have hS : Two w2 w.heap.size n1 n2 none none w2.drew := Two.next ⟨a0, a1, b0, b1, by have := hBe.size; omega, Below.refl _ _⟩ (Below.refl _ _).drew
    go_region_held3 (fun w' => w'.cell? ⟨w.heap.size, 0, none⟩ = some (.int .i64 n1) ∧ w'.cell? ⟨w.heap.size, 1, none⟩ = some (.pointer none) ∧ w'.cell? ⟨w.heap.size + 1, 0, none⟩ = some (.int .i64 n2) ∧ w'.cell? ⟨w.heap.size + 1, 1, none⟩ = some (.pointer none) ∧ w.heap.size + 1 < w'.heap.size ∧ Below w2.heap.size w2 w')
      (first | exact hS | (refine Two.next (by assumption) (by assumption)))
      (first
        | (go_at_call 46; refine calls_at (HNa.out _ (by assumption)) (by with_reducible rfl) (by with_reducible rfl) ?_; rintro e w' ⟨rfl, hb⟩)
        | (go_at_call 46; refine calls_at (HNb.out _ (by assumption)) (by with_reducible rfl) (by with_reducible rfl) ?_; rintro e w' ⟨rfl, hb⟩))
    rename_i hHeld
    have hWw : Below W.heap.size W w' := hBe.trans (hHeld.2.2.2.2.2.mono hBe.size)
    have HUx' : Hid (U32At w' (.slice xa (limbs x.natAbs).length xc) (limbs x.natAbs)) := HUx.out.below hHeld.2.2.2.2.2
    have HUy' : Hid (U32At w' (.slice ya (limbs y.natAbs).length yc) (limbs y.natAbs)) := HUy.out.below hHeld.2.2.2.2.2
    by_cases hd : d1 = d2
    · have HE : Hid (sg d1 (x.natAbs + y.natAbs) = x + y) := by
        show _ = _
        have h := hd
        rw [E1.out, E2.out] at h
        rw [E1.out]; exact sum_same h
      have hdb : (d1 == d2) = true := by simp [hd]
      rw [hdb]
      clear hd hdb
      go_wp2_with fail
      refine (HNa.out _ hHeld).mono ?_
      rintro e w4 ⟨rfl, hb4⟩
      go_wp2_with fail
      refine (addLimbs_any x.natAbs y.natAbs _ _ _ (HUx'.out.below hb4) (HUy'.out.below hb4) (by omega) (by omega)).mono ?_
      rintro e w5 ⟨sv, rfl, hUs, hb5, _⟩
      obtain ⟨sa, sc, hsv, _⟩ := hUs.form
      subst hsv
      go_wp2_with fail
      refine (settled_any d1 (x.natAbs + y.natAbs) _ _ hUs).mono ?_
      rintro e w6 ⟨r, rfl, hr, hb6⟩
      have hb25 : Below W.heap.size W w6 := hWw.trans ((hb4.mono hWw.size).trans ((hb5.mono (Nat.le_trans hWw.size hb4.size)).trans (hb6.mono (Nat.le_trans hWw.size (Nat.le_trans hb4.size hb5.size)))))
      have hR5 := (hb25.block (w.heap.size + 1 + 1) (by omega)).trans hR
      obtain ⟨r0, r1, r2, r3⟩ := box_facts hR5
      obtain ⟨y3, q3, hr3⟩ := hr.shape
      subst hr3
      obtain ⟨m0, m1⟩ := box_set hR5 (.int .i64 y3) (.pointer q3)
      rw [HE.out] at hr
      go_wp2
      exact bodyPost_ret (v := .agg #[.int .i64 y3, .pointer q3]) (by simp [results, Tryz.results29, go_sem, m0, m1]) rfl ⟨_, rfl, hr.setBox hR5 _ _, ((hBW.trans (hb25.mono hBW.size)).setCell (p := ⟨w.heap.size + 1 + 1, 0, none⟩) (by show w.heap.size ≤ w.heap.size + 1 + 1; omega) _).setCell (p := ⟨w.heap.size + 1 + 1, 1, none⟩) (by show w.heap.size ≤ w.heap.size + 1 + 1; omega) _⟩
    · have hdb : (d1 == d2) = false := by simp [hd]
      rw [hdb]
      clear hdb
      by_cases hlt : x.natAbs < y.natAbs
      · have HE : Hid (sg d2 (y.natAbs - x.natAbs) = x + y) := by
          show _ = _
          have h := hd
          rw [E1.out, E2.out] at h
          rw [E2.out]; exact sum_lt h (by omega)
        have hcm : decide (cmpI (x.natAbs : Int) (y.natAbs : Int) < 0) = true := by
          rw [cmpI_lt (by omega)]; rfl
        clear hd
        go_wp2_with fail
        refine (compareLimbs_any x.natAbs y.natAbs _ _ _ HUx'.out HUy'.out (by omega)).mono ?_
        rintro e w3 ⟨rfl, hb3⟩
        have hT3 : Two w2 w.heap.size n1 n2 none none w3 := Two.next hHeld hb3
        obtain ⟨t0, t1, t2, t3, _, _⟩ := hT3
        have hT3' : Hid (Two w2 w.heap.size n1 n2 none none w3) := Two.next hHeld hb3
        generalize cmpI (x.natAbs : Int) (y.natAbs : Int) = cm at *
        go_wp2_with fail
        refine (HNb.out _ hT3'.out).mono ?_
        rintro e w4 ⟨rfl, hb4⟩
        go_wp2_with fail
        refine (subLimbs_any y.natAbs x.natAbs _ _ _ ((HUy'.out.below hb3).below hb4) ((HUx'.out.below hb3).below hb4) (by omega) (by omega)).mono ?_
        rintro e w5 ⟨sv, rfl, hUs, hb5⟩
        obtain ⟨sa, sc, hsv, _⟩ := hUs.form
        subst hsv
        go_wp2_with fail
        refine (settled_any d2 (y.natAbs - x.natAbs) _ _ hUs).mono ?_
        rintro e w6 ⟨r, rfl, hr, hb6⟩
        have hb34 : Below W.heap.size W w4 := hWw.trans ((hb3.mono hWw.size).trans (hb4.mono (Nat.le_trans hWw.size hb3.size)))
        have hb25 : Below W.heap.size W w6 := hb34.trans ((hb5.mono hb34.size).trans (hb6.mono (Nat.le_trans hb34.size hb5.size)))
        have hR5 := (hb25.block (w.heap.size + 1 + 1) (by omega)).trans hR
        obtain ⟨r0, r1, r2, r3⟩ := box_facts hR5
        obtain ⟨y3, q3, hr3⟩ := hr.shape
        subst hr3
        obtain ⟨m0, m1⟩ := box_set hR5 (.int .i64 y3) (.pointer q3)
        rw [HE.out] at hr
        go_wp2
        exact bodyPost_ret (v := .agg #[.int .i64 y3, .pointer q3]) (by simp [results, Tryz.results29, go_sem, m0, m1]) rfl ⟨_, rfl, hr.setBox hR5 _ _, ((hBW.trans (hb25.mono hBW.size)).setCell (p := ⟨w.heap.size + 1 + 1, 0, none⟩) (by show w.heap.size ≤ w.heap.size + 1 + 1; omega) _).setCell (p := ⟨w.heap.size + 1 + 1, 1, none⟩) (by show w.heap.size ≤ w.heap.size + 1 + 1; omega) _⟩
      · have HE : Hid (sg d1 (x.natAbs - y.natAbs) = x + y) := by
          show _ = _
          have h := hd
          rw [E1.out, E2.out] at h
          rw [E1.out]; exact sum_ge h (by omega)
        have hcm : decide (cmpI (x.natAbs : Int) (y.natAbs : Int) < 0) = false := by
          rcases Nat.lt_or_ge y.natAbs x.natAbs with h | h
          · rw [cmpI_gt (by omega)]; rfl
          · rw [cmpI_eq (by omega) (by omega)]; rfl
        clear hd
        go_wp2_with fail
        refine (compareLimbs_any x.natAbs y.natAbs _ _ _ HUx'.out HUy'.out (by omega)).mono ?_
        rintro e w3 ⟨rfl, hb3⟩
        have hT3 : Two w2 w.heap.size n1 n2 none none w3 := Two.next hHeld hb3
        obtain ⟨t0, t1, t2, t3, _, _⟩ := hT3
        have hT3' : Hid (Two w2 w.heap.size n1 n2 none none w3) := Two.next hHeld hb3
        generalize cmpI (x.natAbs : Int) (y.natAbs : Int) = cm at *
        go_wp2_with fail
        refine (HNa.out _ hT3'.out).mono ?_
        rintro e w4 ⟨rfl, hb4⟩
        go_wp2_with fail
        refine (subLimbs_any x.natAbs y.natAbs _ _ _ ((HUx'.out.below hb3).below hb4) ((HUy'.out.below hb3).below hb4) (by omega) (by omega)).mono ?_
        rintro e w5 ⟨sv, rfl, hUs, hb5⟩
        obtain ⟨sa, sc, hsv, _⟩ := hUs.form
        subst hsv
        go_wp2_with fail
        refine (settled_any d1 (x.natAbs - y.natAbs) _ _ hUs).mono ?_
        rintro e w6 ⟨r, rfl, hr, hb6⟩
        have hb34 : Below W.heap.size W w4 := hWw.trans ((hb3.mono hWw.size).trans (hb4.mono (Nat.le_trans hWw.size hb3.size)))
        have hb25 : Below W.heap.size W w6 := hb34.trans ((hb5.mono hb34.size).trans (hb6.mono (Nat.le_trans hb34.size hb5.size)))
        have hR5 := (hb25.block (w.heap.size + 1 + 1) (by omega)).trans hR
        obtain ⟨r0, r1, r2, r3⟩ := box_facts hR5
        obtain ⟨y3, q3, hr3⟩ := hr.shape
        subst hr3
        obtain ⟨m0, m1⟩ := box_set hR5 (.int .i64 y3) (.pointer q3)
        rw [HE.out] at hr
        go_wp2
        exact bodyPost_ret (v := .agg #[.int .i64 y3, .pointer q3]) (by simp [results, Tryz.results29, go_sem, m0, m1]) rfl ⟨_, rfl, hr.setBox hR5 _ _, ((hBW.trans (hb25.mono hBW.size)).setCell (p := ⟨w.heap.size + 1 + 1, 0, none⟩) (by show w.heap.size ≤ w.heap.size + 1 + 1; omega) _).setCell (p := ⟨w.heap.size + 1 + 1, 1, none⟩) (by show w.heap.size ≤ w.heap.size + 1 + 1; omega) _⟩

end Go.Proofs.YtjffbndiecjkjaaGreatDoor
