/-
  Package big: Cmp.
-/
import Derived.Test.YtjffbndiecjkjaaGreatDoorPlus
namespace Go.Proofs.YtjffbndiecjkjaaGreatDoor
open Go.RowKit
open Bn (limbs)
attribute [local go_sem ↓] Go.wp_at_zero Go.wp_at_succ

/-- Two boxes that have just been made: two numbers'. -/
theorem both_boxes (w : World) (n1 n2 : Int) (q1 q2 : Option Addr) {W : World} (hW : (w.alloc (.cells #[.int .i64 n1, .pointer q1] 33)).alloc (.cells #[.int .i64 n2, .pointer q2] 33) = W) :
    W.heap[w.heap.size]? = some (.cells #[.int .i64 n1, .pointer q1] 33) ∧ W.heap[w.heap.size + 1]? = some (.cells #[.int .i64 n2, .pointer q2] 33) ∧ Below w.heap.size w W ∧ W.heap.size = w.heap.size + 2 := by
  subst hW
  have hs1 : (w.alloc (.cells #[.int .i64 n1, .pointer q1] 33)).heap.size = w.heap.size + 1 := by simp
  refine ⟨?_, ?_, ((Below.refl _ _).alloc (Nat.le_refl _) _).alloc (by simp) _, by simp⟩
  · exact (Below.heap_alloc _ _ _ (by simp)).trans (World.alloc_heap_new w _)
  · rw [← hs1]; exact World.alloc_heap_new _ _

theorem cmpI_pos {x y : Int} (hx : 0 ≤ x) (hy : 0 ≤ y) : cmpI (x.natAbs : Int) (y.natAbs : Int) = cmpI x y := by
  rw [Int.natAbs_of_nonneg hx, Int.natAbs_of_nonneg hy]
theorem cmpI_neg {x y : Int} (hx : x < 0) (hy : y < 0) : -(cmpI (x.natAbs : Int) (y.natAbs : Int)) = cmpI x y := by
  rcases Int.lt_trichotomy x y with h | h | h
  · rw [cmpI_lt h, cmpI_gt (show (y.natAbs : Int) < (x.natAbs : Int) by omega)]
  · rw [cmpI_eq (a := x) (b := y) (by omega) (by omega), cmpI_eq (by omega) (by omega)]; rfl
  · rw [cmpI_gt h, cmpI_lt (show (x.natAbs : Int) < (y.natAbs : Int) by omega)]; rfl
theorem cmpI_bound (a b : Int) : -1 ≤ cmpI a b ∧ cmpI a b ≤ 1 := by
  rcases Int.lt_trichotomy a b with h | h | h
  · rw [cmpI_lt h]; omega
  · rw [cmpI_eq (by omega) (by omega)]; omega
  · rw [cmpI_gt h]; omega

set_option maxRecDepth 100000 in
set_option maxHeartbeats 1000000 in
/-- Cmp, where a is no int. -/
theorem cmp_wideA (x y : Int) (n1 n2 : Int) (p1 : Addr) (q2 : Option Addr) (w : World) (HA : Hid (BigAt w (.agg #[.int .i64 n1, .pointer (some p1)]) x)) (HB : Hid (BigAt w (.agg #[.int .i64 n2, .pointer q2]) y)) (hx : (limbs x.natAbs).length ≤ 1000000) :
    Calls Tryz.prog 30 #[.agg #[.int .i64 n1, .pointer (some p1)], .agg #[.int .i64 n2, .pointer q2]] w fun e w' => e = .returned (.int .i64 (cmpI x y)) ∧ Below w.heap.size w w' := by
  obtain ⟨d1, E1⟩ : ∃ d1, Hid (d1 = decide (x < 0)) := ⟨_, rfl⟩
  obtain ⟨d2, E2⟩ : ∃ d2, Hid (d2 = decide (y < 0)) := ⟨_, rfl⟩
  go_enter Tryz.func30, Tryz.ntmps30
  go_wp2_with fail
  generalize hW : (w.alloc (.cells #[.int .i64 n1, .pointer (some p1)] 33)).alloc (.cells #[.int .i64 n2, .pointer q2] 33) = W
  obtain ⟨hA, hB, hBW, hsz⟩ := both_boxes w n1 n2 (some p1) q2 hW
  have HA' : Hid (BigAt W (.agg #[.int .i64 n1, .pointer (some p1)]) x) := HA.out.below hBW
  have HB' : Hid (BigAt W (.agg #[.int .i64 n2, .pointer q2]) y) := HB.out.below hBW
  obtain ⟨a0, a1, _, _⟩ := box_facts hA
  obtain ⟨b0, b1, _, _⟩ := box_facts hB
  have HNa : Hid (∀ w', Two W w.heap.size n1 n2 (some p1) q2 w' → Calls Tryz.prog 46 #[.agg #[.int .i64 n1, .pointer (some p1)]] w' fun e w'' => e = .returned (.bool d1) ∧ Below w'.heap.size w' w'') :=
    fun w' h => by rw [E1.out]; exact negative_big x _ w' (HA'.out.below h.2.2.2.2.2)
  have HNb : Hid (∀ w', Two W w.heap.size n1 n2 (some p1) q2 w' → Calls Tryz.prog 46 #[.agg #[.int .i64 n2, .pointer q2]] w' fun e w'' => e = .returned (.bool d2) ∧ Below w'.heap.size w' w'') :=
    fun w' h => by rw [E2.out]; exact negative_big y _ w' (HB'.out.below h.2.2.2.2.2)
  have hS : Two W w.heap.size n1 n2 (some p1) q2 W.drew := Two.next ⟨a0, a1, b0, b1, by omega, Below.refl _ _⟩ (Below.refl _ _).drew
  clear hW
  go_region_held3 (fun w' => w'.cell? ⟨w.heap.size, 0, none⟩ = some (.int .i64 n1) ∧ w'.cell? ⟨w.heap.size, 1, none⟩ = some (.pointer (some p1)) ∧ w'.cell? ⟨w.heap.size + 1, 0, none⟩ = some (.int .i64 n2) ∧ w'.cell? ⟨w.heap.size + 1, 1, none⟩ = some (.pointer q2) ∧ w.heap.size + 1 < w'.heap.size ∧ Below W.heap.size W w')
    (first | exact hS | (refine Two.next (by assumption) (by assumption)))
    (first
      | (go_at_call 46; refine calls_at (HNa.out _ (by assumption)) (by with_reducible rfl) (by with_reducible rfl) ?_; rintro e w' ⟨rfl, hb⟩)
      | (go_at_call 46; refine calls_at (HNb.out _ (by assumption)) (by with_reducible rfl) (by with_reducible rfl) ?_; rintro e w' ⟨rfl, hb⟩))
  rename_i hHeld
  have hWw : Below W.heap.size W w' := hHeld.2.2.2.2.2
  obtain ⟨t0, t1, t2, t3, t4, _⟩ := id hHeld
  cases d1 <;> cases d2
  · have HE : Hid (cmpI (x.natAbs : Int) (y.natAbs : Int) = cmpI x y) := by
      have h1 := E1.out.symm
      have h2 := E2.out.symm
      simp at h1 h2
      exact cmpI_pos (by omega) (by omega)
    go_wp2_with fail
    have HCa : Hid (Calls Tryz.prog 63 #[.agg #[.int .i64 n1, .pointer (some p1)]] w'.drew fun e w'' => ∃ r, e = .returned r ∧ U32At w'' r (limbs x.natAbs) ∧ Below w'.heap.size w' w'') :=
      (limbs_any x _ w'.drew (HA'.out.below hWw.drew)).mono fun e w'' ⟨r, h1, h2, h3⟩ => ⟨r, h1, h2, (Below.refl w'.heap.size w').drew.trans h3⟩
    have HCb : Hid (∀ w1, Below w'.heap.size w' w1 → Calls Tryz.prog 63 #[.agg #[.int .i64 n2, .pointer q2]] w1 fun e w'' => ∃ r, e = .returned r ∧ U32At w'' r (limbs y.natAbs) ∧ Below w1.heap.size w1 w'') :=
      fun w1 h => limbs_any y _ w1 ((HB'.out.below hWw).below h)
    have HT : Hid (Two W w.heap.size n1 n2 (some p1) q2 w') := hHeld
    have hcb := cmpI_bound (x.natAbs : Int) (y.natAbs : Int)
    obtain ⟨cm, hcm⟩ : ∃ cm, cm = cmpI (x.natAbs : Int) (y.natAbs : Int) := ⟨_, rfl⟩
    have HCM : Hid (cm = cmpI (x.natAbs : Int) (y.natAbs : Int)) := hcm
    rw [← hcm] at hcb HE
    clear hHeld HNb hS hcm
    go_region_with (first
      | (go_at_call 63; refine calls_at HCa.out (by with_reducible rfl) (by with_reducible rfl) ?_; rintro e w1 ⟨xv, rfl, hUx, hb1⟩; obtain ⟨_, _, b01, b11, _, _⟩ := Two.next HT.out hb1; obtain ⟨xa, xc, hxv, _⟩ := hUx.form; subst hxv)
      | (go_at_call 63; refine calls_at (HCb.out _ hb1) (by with_reducible rfl) (by with_reducible rfl) ?_; rintro e w2 ⟨yv, rfl, hUy, hb2⟩; obtain ⟨ya, yc, hyv, _⟩ := hUy.form; subst hyv)
      | (go_at_call 65; refine calls_at (compareLimbs_any x.natAbs y.natAbs _ _ w2 (hUx.below hb2) hUy (by omega)) (by with_reducible rfl) (by with_reducible rfl) ?_; rintro e w3 ⟨rfl, hb3⟩; rw [← HCM.out]; have HT3 : Hid (Two W w.heap.size n1 n2 (some p1) q2 w3) := ((HT.out.next hb1).next hb2).next hb3; obtain ⟨s0, s1, _, _, _, _⟩ := HT3.out))
    all_goals
      go_wp2_with fail
      refine (HNa.out _ HT3.out).mono ?_
      rintro e w4 ⟨rfl, hb4⟩
      have hfin : Below w.heap.size w w4 := hBW.trans ((HT3.out.next hb4).2.2.2.2.2.mono hBW.size)
      go_wp2
      go_ret
      exact ⟨ret_int HE.out, hfin⟩
  · have HE : Hid (1 = cmpI x y) := by
      have h1 := E1.out.symm
      have h2 := E2.out.symm
      simp at h1 h2
      exact (cmpI_gt (by omega)).symm
    go_wp2_with fail
    refine (HNa.out _ hHeld).mono ?_
    rintro e w4 ⟨rfl, hb4⟩
    have hfin : Below w.heap.size w w4 := hBW.trans ((Two.next hHeld hb4).2.2.2.2.2.mono hBW.size)
    go_wp2
    go_ret
    exact ⟨ret_int HE.out, hfin⟩
  · have HE : Hid (-1 = cmpI x y) := by
      have h1 := E1.out.symm
      have h2 := E2.out.symm
      simp at h1 h2
      exact (cmpI_lt (by omega)).symm
    go_wp2_with fail
    refine (HNa.out _ hHeld).mono ?_
    rintro e w4 ⟨rfl, hb4⟩
    have hfin : Below w.heap.size w w4 := hBW.trans ((Two.next hHeld hb4).2.2.2.2.2.mono hBW.size)
    go_wp2
    go_ret
    exact ⟨ret_int HE.out, hfin⟩
  · have HE : Hid (-(cmpI (x.natAbs : Int) (y.natAbs : Int)) = cmpI x y) := by
      have h1 := E1.out.symm
      have h2 := E2.out.symm
      simp at h1 h2
      exact cmpI_neg (by omega) (by omega)
    go_wp2_with fail
    have HCa : Hid (Calls Tryz.prog 63 #[.agg #[.int .i64 n1, .pointer (some p1)]] w'.drew fun e w'' => ∃ r, e = .returned r ∧ U32At w'' r (limbs x.natAbs) ∧ Below w'.heap.size w' w'') :=
      (limbs_any x _ w'.drew (HA'.out.below hWw.drew)).mono fun e w'' ⟨r, h1, h2, h3⟩ => ⟨r, h1, h2, (Below.refl w'.heap.size w').drew.trans h3⟩
    have HCb : Hid (∀ w1, Below w'.heap.size w' w1 → Calls Tryz.prog 63 #[.agg #[.int .i64 n2, .pointer q2]] w1 fun e w'' => ∃ r, e = .returned r ∧ U32At w'' r (limbs y.natAbs) ∧ Below w1.heap.size w1 w'') :=
      fun w1 h => limbs_any y _ w1 ((HB'.out.below hWw).below h)
    have HT : Hid (Two W w.heap.size n1 n2 (some p1) q2 w') := hHeld
    have hcb := cmpI_bound (x.natAbs : Int) (y.natAbs : Int)
    obtain ⟨cm, hcm⟩ : ∃ cm, cm = cmpI (x.natAbs : Int) (y.natAbs : Int) := ⟨_, rfl⟩
    have HCM : Hid (cm = cmpI (x.natAbs : Int) (y.natAbs : Int)) := hcm
    rw [← hcm] at hcb HE
    clear hHeld HNb hS hcm
    go_region_with (first
      | (go_at_call 63; refine calls_at HCa.out (by with_reducible rfl) (by with_reducible rfl) ?_; rintro e w1 ⟨xv, rfl, hUx, hb1⟩; obtain ⟨_, _, b01, b11, _, _⟩ := Two.next HT.out hb1; obtain ⟨xa, xc, hxv, _⟩ := hUx.form; subst hxv)
      | (go_at_call 63; refine calls_at (HCb.out _ hb1) (by with_reducible rfl) (by with_reducible rfl) ?_; rintro e w2 ⟨yv, rfl, hUy, hb2⟩; obtain ⟨ya, yc, hyv, _⟩ := hUy.form; subst hyv)
      | (go_at_call 65; refine calls_at (compareLimbs_any x.natAbs y.natAbs _ _ w2 (hUx.below hb2) hUy (by omega)) (by with_reducible rfl) (by with_reducible rfl) ?_; rintro e w3 ⟨rfl, hb3⟩; rw [← HCM.out]; have HT3 : Hid (Two W w.heap.size n1 n2 (some p1) q2 w3) := ((HT.out.next hb1).next hb2).next hb3; obtain ⟨s0, s1, _, _, _, _⟩ := HT3.out))
    all_goals
      go_wp2_with fail
      refine (HNa.out _ HT3.out).mono ?_
      rintro e w4 ⟨rfl, hb4⟩
      have hfin : Below w.heap.size w w4 := hBW.trans ((HT3.out.next hb4).2.2.2.2.2.mono hBW.size)
      go_wp2
      go_ret
      exact ⟨ret_int HE.out, hfin⟩

set_option maxRecDepth 100000 in
set_option maxHeartbeats 1000000 in
/-- Cmp, where b is no int. -/
theorem cmp_wideB (x y : Int) (n1 n2 : Int) (p2 : Addr) (w : World) (HA : Hid (BigAt w (.agg #[.int .i64 n1, .pointer none]) x)) (HB : Hid (BigAt w (.agg #[.int .i64 n2, .pointer (some p2)]) y)) (hx : (limbs x.natAbs).length ≤ 1000000) :
    Calls Tryz.prog 30 #[.agg #[.int .i64 n1, .pointer none], .agg #[.int .i64 n2, .pointer (some p2)]] w fun e w' => e = .returned (.int .i64 (cmpI x y)) ∧ Below w.heap.size w w' := by
  obtain ⟨d1, E1⟩ : ∃ d1, Hid (d1 = decide (x < 0)) := ⟨_, rfl⟩
  obtain ⟨d2, E2⟩ : ∃ d2, Hid (d2 = decide (y < 0)) := ⟨_, rfl⟩
  go_enter Tryz.func30, Tryz.ntmps30
  go_wp2_with fail
  generalize hW : (w.alloc (.cells #[.int .i64 n1, .pointer none] 33)).alloc (.cells #[.int .i64 n2, .pointer (some p2)] 33) = W
  obtain ⟨hA, hB, hBW, hsz⟩ := both_boxes w n1 n2 none (some p2) hW
  have HA' : Hid (BigAt W (.agg #[.int .i64 n1, .pointer none]) x) := HA.out.below hBW
  have HB' : Hid (BigAt W (.agg #[.int .i64 n2, .pointer (some p2)]) y) := HB.out.below hBW
  obtain ⟨a0, a1, _, _⟩ := box_facts hA
  obtain ⟨b0, b1, _, _⟩ := box_facts hB
  have HNa : Hid (∀ w', Two W w.heap.size n1 n2 none (some p2) w' → Calls Tryz.prog 46 #[.agg #[.int .i64 n1, .pointer none]] w' fun e w'' => e = .returned (.bool d1) ∧ Below w'.heap.size w' w'') :=
    fun w' h => by rw [E1.out]; exact negative_big x _ w' (HA'.out.below h.2.2.2.2.2)
  have HNb : Hid (∀ w', Two W w.heap.size n1 n2 none (some p2) w' → Calls Tryz.prog 46 #[.agg #[.int .i64 n2, .pointer (some p2)]] w' fun e w'' => e = .returned (.bool d2) ∧ Below w'.heap.size w' w'') :=
    fun w' h => by rw [E2.out]; exact negative_big y _ w' (HB'.out.below h.2.2.2.2.2)
  have hS : Two W w.heap.size n1 n2 none (some p2) W.drew := Two.next ⟨a0, a1, b0, b1, by omega, Below.refl _ _⟩ (Below.refl _ _).drew
  clear hW
  go_region_held3 (fun w' => w'.cell? ⟨w.heap.size, 0, none⟩ = some (.int .i64 n1) ∧ w'.cell? ⟨w.heap.size, 1, none⟩ = some (.pointer none) ∧ w'.cell? ⟨w.heap.size + 1, 0, none⟩ = some (.int .i64 n2) ∧ w'.cell? ⟨w.heap.size + 1, 1, none⟩ = some (.pointer (some p2)) ∧ w.heap.size + 1 < w'.heap.size ∧ Below W.heap.size W w')
    (first | exact hS | (refine Two.next (by assumption) (by assumption)))
    (first
      | (go_at_call 46; refine calls_at (HNa.out _ (by assumption)) (by with_reducible rfl) (by with_reducible rfl) ?_; rintro e w' ⟨rfl, hb⟩)
      | (go_at_call 46; refine calls_at (HNb.out _ (by assumption)) (by with_reducible rfl) (by with_reducible rfl) ?_; rintro e w' ⟨rfl, hb⟩))
  rename_i hHeld
  have hWw : Below W.heap.size W w' := hHeld.2.2.2.2.2
  obtain ⟨t0, t1, t2, t3, t4, _⟩ := id hHeld
  cases d1 <;> cases d2
  · have HE : Hid (cmpI (x.natAbs : Int) (y.natAbs : Int) = cmpI x y) := by
      have h1 := E1.out.symm
      have h2 := E2.out.symm
      simp at h1 h2
      exact cmpI_pos (by omega) (by omega)
    go_wp2_with fail
    have HCa : Hid (Calls Tryz.prog 63 #[.agg #[.int .i64 n1, .pointer none]] w'.drew fun e w'' => ∃ r, e = .returned r ∧ U32At w'' r (limbs x.natAbs) ∧ Below w'.heap.size w' w'') :=
      (limbs_any x _ w'.drew (HA'.out.below hWw.drew)).mono fun e w'' ⟨r, h1, h2, h3⟩ => ⟨r, h1, h2, (Below.refl w'.heap.size w').drew.trans h3⟩
    have HCb : Hid (∀ w1, Below w'.heap.size w' w1 → Calls Tryz.prog 63 #[.agg #[.int .i64 n2, .pointer (some p2)]] w1 fun e w'' => ∃ r, e = .returned r ∧ U32At w'' r (limbs y.natAbs) ∧ Below w1.heap.size w1 w'') :=
      fun w1 h => limbs_any y _ w1 ((HB'.out.below hWw).below h)
    have HT : Hid (Two W w.heap.size n1 n2 none (some p2) w') := hHeld
    have hcb := cmpI_bound (x.natAbs : Int) (y.natAbs : Int)
    obtain ⟨cm, hcm⟩ : ∃ cm, cm = cmpI (x.natAbs : Int) (y.natAbs : Int) := ⟨_, rfl⟩
    have HCM : Hid (cm = cmpI (x.natAbs : Int) (y.natAbs : Int)) := hcm
    rw [← hcm] at hcb HE
    clear hHeld HNb hS hcm
    go_region_with (first
      | (go_at_call 63; refine calls_at HCa.out (by with_reducible rfl) (by with_reducible rfl) ?_; rintro e w1 ⟨xv, rfl, hUx, hb1⟩; obtain ⟨_, _, b01, b11, _, _⟩ := Two.next HT.out hb1; obtain ⟨xa, xc, hxv, _⟩ := hUx.form; subst hxv)
      | (go_at_call 63; refine calls_at (HCb.out _ hb1) (by with_reducible rfl) (by with_reducible rfl) ?_; rintro e w2 ⟨yv, rfl, hUy, hb2⟩; obtain ⟨ya, yc, hyv, _⟩ := hUy.form; subst hyv)
      | (go_at_call 65; refine calls_at (compareLimbs_any x.natAbs y.natAbs _ _ w2 (hUx.below hb2) hUy (by omega)) (by with_reducible rfl) (by with_reducible rfl) ?_; rintro e w3 ⟨rfl, hb3⟩; rw [← HCM.out]; have HT3 : Hid (Two W w.heap.size n1 n2 none (some p2) w3) := ((HT.out.next hb1).next hb2).next hb3; obtain ⟨s0, s1, _, _, _, _⟩ := HT3.out))
    all_goals
      go_wp2_with fail
      refine (HNa.out _ HT3.out).mono ?_
      rintro e w4 ⟨rfl, hb4⟩
      have hfin : Below w.heap.size w w4 := hBW.trans ((HT3.out.next hb4).2.2.2.2.2.mono hBW.size)
      go_wp2
      go_ret
      exact ⟨ret_int HE.out, hfin⟩
  · have HE : Hid (1 = cmpI x y) := by
      have h1 := E1.out.symm
      have h2 := E2.out.symm
      simp at h1 h2
      exact (cmpI_gt (by omega)).symm
    go_wp2_with fail
    refine (HNa.out _ hHeld).mono ?_
    rintro e w4 ⟨rfl, hb4⟩
    have hfin : Below w.heap.size w w4 := hBW.trans ((Two.next hHeld hb4).2.2.2.2.2.mono hBW.size)
    go_wp2
    go_ret
    exact ⟨ret_int HE.out, hfin⟩
  · have HE : Hid (-1 = cmpI x y) := by
      have h1 := E1.out.symm
      have h2 := E2.out.symm
      simp at h1 h2
      exact (cmpI_lt (by omega)).symm
    go_wp2_with fail
    refine (HNa.out _ hHeld).mono ?_
    rintro e w4 ⟨rfl, hb4⟩
    have hfin : Below w.heap.size w w4 := hBW.trans ((Two.next hHeld hb4).2.2.2.2.2.mono hBW.size)
    go_wp2
    go_ret
    exact ⟨ret_int HE.out, hfin⟩
  · have HE : Hid (-(cmpI (x.natAbs : Int) (y.natAbs : Int)) = cmpI x y) := by
      have h1 := E1.out.symm
      have h2 := E2.out.symm
      simp at h1 h2
      exact cmpI_neg (by omega) (by omega)
    go_wp2_with fail
    have HCa : Hid (Calls Tryz.prog 63 #[.agg #[.int .i64 n1, .pointer none]] w'.drew fun e w'' => ∃ r, e = .returned r ∧ U32At w'' r (limbs x.natAbs) ∧ Below w'.heap.size w' w'') :=
      (limbs_any x _ w'.drew (HA'.out.below hWw.drew)).mono fun e w'' ⟨r, h1, h2, h3⟩ => ⟨r, h1, h2, (Below.refl w'.heap.size w').drew.trans h3⟩
    have HCb : Hid (∀ w1, Below w'.heap.size w' w1 → Calls Tryz.prog 63 #[.agg #[.int .i64 n2, .pointer (some p2)]] w1 fun e w'' => ∃ r, e = .returned r ∧ U32At w'' r (limbs y.natAbs) ∧ Below w1.heap.size w1 w'') :=
      fun w1 h => limbs_any y _ w1 ((HB'.out.below hWw).below h)
    have HT : Hid (Two W w.heap.size n1 n2 none (some p2) w') := hHeld
    have hcb := cmpI_bound (x.natAbs : Int) (y.natAbs : Int)
    obtain ⟨cm, hcm⟩ : ∃ cm, cm = cmpI (x.natAbs : Int) (y.natAbs : Int) := ⟨_, rfl⟩
    have HCM : Hid (cm = cmpI (x.natAbs : Int) (y.natAbs : Int)) := hcm
    rw [← hcm] at hcb HE
    clear hHeld HNb hS hcm
    go_region_with (first
      | (go_at_call 63; refine calls_at HCa.out (by with_reducible rfl) (by with_reducible rfl) ?_; rintro e w1 ⟨xv, rfl, hUx, hb1⟩; obtain ⟨_, _, b01, b11, _, _⟩ := Two.next HT.out hb1; obtain ⟨xa, xc, hxv, _⟩ := hUx.form; subst hxv)
      | (go_at_call 63; refine calls_at (HCb.out _ hb1) (by with_reducible rfl) (by with_reducible rfl) ?_; rintro e w2 ⟨yv, rfl, hUy, hb2⟩; obtain ⟨ya, yc, hyv, _⟩ := hUy.form; subst hyv)
      | (go_at_call 65; refine calls_at (compareLimbs_any x.natAbs y.natAbs _ _ w2 (hUx.below hb2) hUy (by omega)) (by with_reducible rfl) (by with_reducible rfl) ?_; rintro e w3 ⟨rfl, hb3⟩; rw [← HCM.out]; have HT3 : Hid (Two W w.heap.size n1 n2 none (some p2) w3) := ((HT.out.next hb1).next hb2).next hb3; obtain ⟨s0, s1, _, _, _, _⟩ := HT3.out))
    all_goals
      go_wp2_with fail
      refine (HNa.out _ HT3.out).mono ?_
      rintro e w4 ⟨rfl, hb4⟩
      have hfin : Below w.heap.size w w4 := hBW.trans ((HT3.out.next hb4).2.2.2.2.2.mono hBW.size)
      go_wp2
      go_ret
      exact ⟨ret_int HE.out, hfin⟩

/-- Cmp. -/
theorem cmp_big (x y : Int) (va vb : Value) (w : World) (ha : BigAt w va x) (hb : BigAt w vb y) (hx : (limbs x.natAbs).length ≤ 1000000) :
    Calls Tryz.prog 30 #[va, vb] w fun e w' => e = .returned (.int .i64 (cmpI x y)) ∧ Below w.heap.size w w' := by
  have HA : Hid (BigAt w va x) := ha
  have HB : Hid (BigAt w vb y) := hb
  rcases ha with ⟨hfx, rfl⟩ | ⟨_, p, s, rfl, _⟩
  · rcases hb with ⟨hfy, rfl⟩ | ⟨_, p, s, rfl, _⟩
    · exact cmp_int x y w
    · exact cmp_wideB x y _ _ _ w HA HB hx
  · obtain ⟨n2, q2, rfl⟩ := hb.shape
    exact cmp_wideA x y _ _ _ _ w HA HB hx

end Go.Proofs.YtjffbndiecjkjaaGreatDoor
