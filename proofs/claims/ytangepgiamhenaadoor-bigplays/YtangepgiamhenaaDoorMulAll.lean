/-
  Put together: Mul, MulInts.
-/
import Derived.Test.YtangepgiamhenaaDoorColAll
import Derived.Test.YtangepgiamhenaaDoorPlus
namespace Go.Proofs.YtangepgiamhenaaDoor
open Go.RowKit
open Bn (limbs)
attribute [local go_sem ↓] Go.wp_at_zero Go.wp_at_succ

theorem sg_mul (x y : Int) : sg (!(decide (x < 0) == decide (y < 0))) (x.natAbs * y.natAbs) = x * y := by
  rw [← Int.natAbs_mul]
  have hxc : x < 0 ∨ 0 ≤ x := by omega
  have hyc : y < 0 ∨ 0 ≤ y := by omega
  rcases hxc with hx | hx <;> rcases hyc with hy | hy
  · have h : 0 ≤ x * y := Int.mul_nonneg_of_nonpos_of_nonpos (by omega) (by omega)
    rw [decide_eq_true hx, decide_eq_true hy]
    show ((x * y).natAbs : Int) = _
    omega
  · have h : x * y ≤ 0 := Int.mul_nonpos_of_nonpos_of_nonneg (by omega) hy
    rw [decide_eq_true hx, decide_eq_false (by omega)]
    show -((x * y).natAbs : Int) = _
    omega
  · have h : x * y ≤ 0 := Int.mul_nonpos_of_nonneg_of_nonpos hx (by omega)
    rw [decide_eq_false (p := x < 0) (by omega), decide_eq_true hy]
    show -((x * y).natAbs : Int) = _
    omega
  · have h : 0 ≤ x * y := Int.mul_nonneg hx hy
    rw [decide_eq_false (p := x < 0) (by omega), decide_eq_false (p := y < 0) (by omega)]
    show ((x * y).natAbs : Int) = _
    omega

set_option maxRecDepth 100000 in
set_option maxHeartbeats 1000000 in
/-- Mul, where a is no int. -/
theorem mul_wideA (x y : Int) (n1 n2 : Int) (p1 : Addr) (q2 : Option Addr) (w : World) (HA : Hid (BigAt w (.agg #[.int .i64 n1, .pointer (some p1)]) x)) (HB : Hid (BigAt w (.agg #[.int .i64 n2, .pointer q2]) y)) (hx : (limbs x.natAbs).length ≤ 1000000) (hy : (limbs y.natAbs).length ≤ 1000000) :
    Calls Tryd.prog 27 #[.agg #[.int .i64 n1, .pointer (some p1)], .agg #[.int .i64 n2, .pointer q2]] w fun e w' => ∃ r, e = .returned r ∧ BigAt w' r (x * y) ∧ Below w.heap.size w w' := by
  obtain ⟨d1, E1⟩ : ∃ d1, Hid (d1 = decide (x < 0)) := ⟨_, rfl⟩
  obtain ⟨d2, E2⟩ : ∃ d2, Hid (d2 = decide (y < 0)) := ⟨_, rfl⟩
  have HE : Hid (sg (!(d1 == d2)) (x.natAbs * y.natAbs) = x * y) := by show _ = _; rw [E1.out, E2.out]; exact sg_mul x y
  go_enter Tryd.func27, Tryd.ntmps27
  go_wp2_with fail
  generalize hW : ((w.alloc (.cells #[.int .i64 n1, .pointer (some p1)] 24)).alloc (.cells #[.int .i64 n2, .pointer q2] 24)).alloc (.cells #[.int .i64 0, .pointer none] 24) = W
  obtain ⟨hA, hB, hR, hBW, hsz⟩ := three_boxes w n1 n2 (some p1) q2 hW
  have HA' : Hid (BigAt W (.agg #[.int .i64 n1, .pointer (some p1)]) x) := HA.out.below hBW
  have HB' : Hid (BigAt W (.agg #[.int .i64 n2, .pointer q2]) y) := HB.out.below hBW
  obtain ⟨a0, a1, _, _⟩ := box_facts hA
  obtain ⟨b0, b1, _, _⟩ := box_facts hB
  have HNa : Hid (∀ w', Two W w.heap.size n1 n2 (some p1) q2 w' → Calls Tryd.prog 46 #[.agg #[.int .i64 n1, .pointer (some p1)]] w' fun e w'' => e = .returned (.bool d1) ∧ Below w'.heap.size w' w'') :=
    fun w' h => by rw [E1.out]; exact negative_big x _ w' (HA'.out.below h.2.2.2.2.2)
  have HNb : Hid (∀ w', Two W w.heap.size n1 n2 (some p1) q2 w' → Calls Tryd.prog 46 #[.agg #[.int .i64 n2, .pointer q2]] w' fun e w'' => e = .returned (.bool d2) ∧ Below w'.heap.size w' w'') :=
    fun w' h => by rw [E2.out]; exact negative_big y _ w' (HB'.out.below h.2.2.2.2.2)
  have hS : Two W w.heap.size n1 n2 (some p1) q2 W.drew := Two.next ⟨a0, a1, b0, b1, by omega, Below.refl _ _⟩ (Below.refl _ _).drew
  clear hW
  go_region_held3 (fun w' => w'.cell? ⟨w.heap.size, 0, none⟩ = some (.int .i64 n1) ∧ w'.cell? ⟨w.heap.size, 1, none⟩ = some (.pointer (some p1)) ∧ w'.cell? ⟨w.heap.size + 1, 0, none⟩ = some (.int .i64 n2) ∧ w'.cell? ⟨w.heap.size + 1, 1, none⟩ = some (.pointer q2) ∧ w.heap.size + 1 < w'.heap.size ∧ Below W.heap.size W w')
    (first | exact hS | (refine Two.next (by assumption) (by assumption)))
    (first
      | (go_at_call 46; refine calls_at (HNa.out _ (by assumption)) (by with_reducible rfl) (by with_reducible rfl) ?_; rintro e w' ⟨rfl, hb⟩)
      | (go_at_call 46; refine calls_at (HNb.out _ (by assumption)) (by with_reducible rfl) (by with_reducible rfl) ?_; rintro e w' ⟨rfl, hb⟩))
  rename_i hHeld
  have hWw : Below W.heap.size W w' := hHeld.2.2.2.2.2
  obtain ⟨t0, t1, t2, t3, t4, _⟩ := id hHeld
  generalize (!(d1 == d2)) = dd at *
  go_wp2_with fail
  have HCa : Hid (Calls Tryd.prog 49 #[.agg #[.int .i64 n1, .pointer (some p1)]] w'.drew fun e w'' => ∃ r, e = .returned r ∧ U32At w'' r (limbs x.natAbs) ∧ Below w'.heap.size w' w'') :=
    (limbs_any x _ w'.drew (HA'.out.below hWw.drew)).mono fun e w'' ⟨r, h1, h2, h3⟩ => ⟨r, h1, h2, (Below.refl w'.heap.size w').drew.trans h3⟩
  have HCb : Hid (∀ w1, Below w'.heap.size w' w1 → Calls Tryd.prog 49 #[.agg #[.int .i64 n2, .pointer q2]] w1 fun e w'' => ∃ r, e = .returned r ∧ U32At w'' r (limbs y.natAbs) ∧ Below w1.heap.size w1 w'') :=
    fun w1 h => limbs_any y _ w1 ((HB'.out.below hWw).below h)
  have HT : Hid (Two W w.heap.size n1 n2 (some p1) q2 w') := hHeld
  clear hHeld HNa HNb hS
  go_region_with (first
    | (go_at_call 49; refine calls_at HCa.out (by with_reducible rfl) (by with_reducible rfl) ?_; rintro e w1 ⟨xv, rfl, hUx, hb1⟩; obtain ⟨_, _, b01, b11, _, _⟩ := Two.next HT.out hb1; obtain ⟨xa, xc, hxv, _⟩ := hUx.form; subst hxv)
    | (go_at_call 49; refine calls_at (HCb.out _ hb1) (by with_reducible rfl) (by with_reducible rfl) ?_; rintro e w2 ⟨yv, rfl, hUy, hb2⟩; obtain ⟨ya, yc, hyv, _⟩ := hUy.form; subst hyv)
    | (go_at_call 59; refine calls_at (mulLimbs_any x.natAbs y.natAbs _ _ w2 (hUx.below hb2) hUy (by omega) (by omega)) (by with_reducible rfl) (by with_reducible rfl) ?_; rintro e w3 ⟨pv, rfl, hUp, hb3⟩; obtain ⟨ma, mc, hpv, _⟩ := hUp.form; subst hpv)
    | (go_at_call 36; refine calls_at (settled_any dd (x.natAbs * y.natAbs) _ w3 hUp) (by with_reducible rfl) (by with_reducible rfl) ?_; rintro e w4 ⟨r, rfl, hr, hb4⟩; obtain ⟨y3, q4, hr3⟩ := hr.shape; subst hr3; have hb02 : Below W.heap.size W w2 := hWw.trans ((hb1.mono hWw.size).trans (hb2.mono (Nat.le_trans hWw.size hb1.size))); have hb04 : Below W.heap.size W w4 := hb02.trans ((hb3.mono hb02.size).trans (hb4.mono (Nat.le_trans hb02.size hb3.size))); have hR2 := (hb04.block (w.heap.size + 1 + 1) (by omega)).trans hR; obtain ⟨r0, r1, r2, r3⟩ := box_facts hR2))
  all_goals
    obtain ⟨m0, m1⟩ := box_set hR2 (.int .i64 y3) (.pointer q4)
    rw [HE.out] at hr
    go_wp2
    exact bodyPost_ret (v := .agg #[.int .i64 y3, .pointer q4]) (by simp [results, Tryd.results27, go_sem, m0, m1]) rfl ⟨_, rfl, hr.setBox hR2 _ _, ((hBW.trans (hb04.mono hBW.size)).setCell (p := ⟨w.heap.size + 1 + 1, 0, none⟩) (by show w.heap.size ≤ w.heap.size + 1 + 1; omega) _).setCell (p := ⟨w.heap.size + 1 + 1, 1, none⟩) (by show w.heap.size ≤ w.heap.size + 1 + 1; omega) _⟩

set_option maxRecDepth 100000 in
set_option maxHeartbeats 1000000 in
/-- Mul, where b is no int. -/
theorem mul_wideB (x y : Int) (n1 n2 : Int) (p2 : Addr) (w : World) (HA : Hid (BigAt w (.agg #[.int .i64 n1, .pointer none]) x)) (HB : Hid (BigAt w (.agg #[.int .i64 n2, .pointer (some p2)]) y)) (hx : (limbs x.natAbs).length ≤ 1000000) (hy : (limbs y.natAbs).length ≤ 1000000) :
    Calls Tryd.prog 27 #[.agg #[.int .i64 n1, .pointer none], .agg #[.int .i64 n2, .pointer (some p2)]] w fun e w' => ∃ r, e = .returned r ∧ BigAt w' r (x * y) ∧ Below w.heap.size w w' := by
  obtain ⟨d1, E1⟩ : ∃ d1, Hid (d1 = decide (x < 0)) := ⟨_, rfl⟩
  obtain ⟨d2, E2⟩ : ∃ d2, Hid (d2 = decide (y < 0)) := ⟨_, rfl⟩
  have HE : Hid (sg (!(d1 == d2)) (x.natAbs * y.natAbs) = x * y) := by show _ = _; rw [E1.out, E2.out]; exact sg_mul x y
  go_enter Tryd.func27, Tryd.ntmps27
  go_wp2_with fail
  generalize hW : ((w.alloc (.cells #[.int .i64 n1, .pointer none] 24)).alloc (.cells #[.int .i64 n2, .pointer (some p2)] 24)).alloc (.cells #[.int .i64 0, .pointer none] 24) = W
  obtain ⟨hA, hB, hR, hBW, hsz⟩ := three_boxes w n1 n2 none (some p2) hW
  have HA' : Hid (BigAt W (.agg #[.int .i64 n1, .pointer none]) x) := HA.out.below hBW
  have HB' : Hid (BigAt W (.agg #[.int .i64 n2, .pointer (some p2)]) y) := HB.out.below hBW
  obtain ⟨a0, a1, _, _⟩ := box_facts hA
  obtain ⟨b0, b1, _, _⟩ := box_facts hB
  have HNa : Hid (∀ w', Two W w.heap.size n1 n2 none (some p2) w' → Calls Tryd.prog 46 #[.agg #[.int .i64 n1, .pointer none]] w' fun e w'' => e = .returned (.bool d1) ∧ Below w'.heap.size w' w'') :=
    fun w' h => by rw [E1.out]; exact negative_big x _ w' (HA'.out.below h.2.2.2.2.2)
  have HNb : Hid (∀ w', Two W w.heap.size n1 n2 none (some p2) w' → Calls Tryd.prog 46 #[.agg #[.int .i64 n2, .pointer (some p2)]] w' fun e w'' => e = .returned (.bool d2) ∧ Below w'.heap.size w' w'') :=
    fun w' h => by rw [E2.out]; exact negative_big y _ w' (HB'.out.below h.2.2.2.2.2)
  have hS : Two W w.heap.size n1 n2 none (some p2) W.drew := Two.next ⟨a0, a1, b0, b1, by omega, Below.refl _ _⟩ (Below.refl _ _).drew
  clear hW
  go_region_held3 (fun w' => w'.cell? ⟨w.heap.size, 0, none⟩ = some (.int .i64 n1) ∧ w'.cell? ⟨w.heap.size, 1, none⟩ = some (.pointer none) ∧ w'.cell? ⟨w.heap.size + 1, 0, none⟩ = some (.int .i64 n2) ∧ w'.cell? ⟨w.heap.size + 1, 1, none⟩ = some (.pointer (some p2)) ∧ w.heap.size + 1 < w'.heap.size ∧ Below W.heap.size W w')
    (first | exact hS | (refine Two.next (by assumption) (by assumption)))
    (first
      | (go_at_call 46; refine calls_at (HNa.out _ (by assumption)) (by with_reducible rfl) (by with_reducible rfl) ?_; rintro e w' ⟨rfl, hb⟩)
      | (go_at_call 46; refine calls_at (HNb.out _ (by assumption)) (by with_reducible rfl) (by with_reducible rfl) ?_; rintro e w' ⟨rfl, hb⟩))
  rename_i hHeld
  have hWw : Below W.heap.size W w' := hHeld.2.2.2.2.2
  obtain ⟨t0, t1, t2, t3, t4, _⟩ := id hHeld
  generalize (!(d1 == d2)) = dd at *
  go_wp2_with fail
  have HCa : Hid (Calls Tryd.prog 49 #[.agg #[.int .i64 n1, .pointer none]] w'.drew fun e w'' => ∃ r, e = .returned r ∧ U32At w'' r (limbs x.natAbs) ∧ Below w'.heap.size w' w'') :=
    (limbs_any x _ w'.drew (HA'.out.below hWw.drew)).mono fun e w'' ⟨r, h1, h2, h3⟩ => ⟨r, h1, h2, (Below.refl w'.heap.size w').drew.trans h3⟩
  have HCb : Hid (∀ w1, Below w'.heap.size w' w1 → Calls Tryd.prog 49 #[.agg #[.int .i64 n2, .pointer (some p2)]] w1 fun e w'' => ∃ r, e = .returned r ∧ U32At w'' r (limbs y.natAbs) ∧ Below w1.heap.size w1 w'') :=
    fun w1 h => limbs_any y _ w1 ((HB'.out.below hWw).below h)
  have HT : Hid (Two W w.heap.size n1 n2 none (some p2) w') := hHeld
  clear hHeld HNa HNb hS
  go_region_with (first
    | (go_at_call 49; refine calls_at HCa.out (by with_reducible rfl) (by with_reducible rfl) ?_; rintro e w1 ⟨xv, rfl, hUx, hb1⟩; obtain ⟨_, _, b01, b11, _, _⟩ := Two.next HT.out hb1; obtain ⟨xa, xc, hxv, _⟩ := hUx.form; subst hxv)
    | (go_at_call 49; refine calls_at (HCb.out _ hb1) (by with_reducible rfl) (by with_reducible rfl) ?_; rintro e w2 ⟨yv, rfl, hUy, hb2⟩; obtain ⟨ya, yc, hyv, _⟩ := hUy.form; subst hyv)
    | (go_at_call 59; refine calls_at (mulLimbs_any x.natAbs y.natAbs _ _ w2 (hUx.below hb2) hUy (by omega) (by omega)) (by with_reducible rfl) (by with_reducible rfl) ?_; rintro e w3 ⟨pv, rfl, hUp, hb3⟩; obtain ⟨ma, mc, hpv, _⟩ := hUp.form; subst hpv)
    | (go_at_call 36; refine calls_at (settled_any dd (x.natAbs * y.natAbs) _ w3 hUp) (by with_reducible rfl) (by with_reducible rfl) ?_; rintro e w4 ⟨r, rfl, hr, hb4⟩; obtain ⟨y3, q4, hr3⟩ := hr.shape; subst hr3; have hb02 : Below W.heap.size W w2 := hWw.trans ((hb1.mono hWw.size).trans (hb2.mono (Nat.le_trans hWw.size hb1.size))); have hb04 : Below W.heap.size W w4 := hb02.trans ((hb3.mono hb02.size).trans (hb4.mono (Nat.le_trans hb02.size hb3.size))); have hR2 := (hb04.block (w.heap.size + 1 + 1) (by omega)).trans hR; obtain ⟨r0, r1, r2, r3⟩ := box_facts hR2))
  all_goals
    obtain ⟨m0, m1⟩ := box_set hR2 (.int .i64 y3) (.pointer q4)
    rw [HE.out] at hr
    go_wp2
    exact bodyPost_ret (v := .agg #[.int .i64 y3, .pointer q4]) (by simp [results, Tryd.results27, go_sem, m0, m1]) rfl ⟨_, rfl, hr.setBox hR2 _ _, ((hBW.trans (hb04.mono hBW.size)).setCell (p := ⟨w.heap.size + 1 + 1, 0, none⟩) (by show w.heap.size ≤ w.heap.size + 1 + 1; omega) _).setCell (p := ⟨w.heap.size + 1 + 1, 1, none⟩) (by show w.heap.size ≤ w.heap.size + 1 + 1; omega) _⟩

end Go.Proofs.YtangepgiamhenaaDoor

namespace Go.Proofs.YtangepgiamhenaaDoor
open Go.RowKit
open Bn (limbs)
attribute [local go_sem ↓] Go.wp_at_zero Go.wp_at_succ

set_option maxRecDepth 100000 in
set_option maxHeartbeats 1000000 in
/-- Mul, of two ints. -/
theorem mul_small (x y : Int) (H L : Nat) (hfx : Fits x) (hfy : Fits y) (HM : Hid (H = x.natAbs * y.natAbs / 18446744073709551616)) (HL : Hid (L = x.natAbs * y.natAbs % 18446744073709551616)) (hH : ((H : Int) == 0) = true) (HLb : Hid (L < 18446744073709551616)) (HLE : Hid (L = x.natAbs * y.natAbs)) (w : World) (HA : Hid (BigAt w (.agg #[.int .i64 x, .pointer none]) x)) (HB : Hid (BigAt w (.agg #[.int .i64 y, .pointer none]) y)) :
    Calls Tryd.prog 27 #[.agg #[.int .i64 x, .pointer none], .agg #[.int .i64 y, .pointer none]] w fun e w' => ∃ r, e = .returned r ∧ BigAt w' r (x * y) ∧ Below w.heap.size w w' := by
  obtain ⟨d1, E1⟩ : ∃ d1, Hid (d1 = decide (x < 0)) := ⟨_, rfl⟩
  obtain ⟨d2, E2⟩ : ∃ d2, Hid (d2 = decide (y < 0)) := ⟨_, rfl⟩
  have HE : Hid (sg (!(d1 == d2)) (x.natAbs * y.natAbs) = x * y) := by show _ = _; rw [E1.out, E2.out]; exact sg_mul x y
  go_enter Tryd.func27, Tryd.ntmps27
  go_wp2_with fail
  generalize hW : ((w.alloc (.cells #[.int .i64 x, .pointer none] 24)).alloc (.cells #[.int .i64 y, .pointer none] 24)).alloc (.cells #[.int .i64 0, .pointer none] 24) = W
  obtain ⟨hA, hB, hR, hBW, hsz⟩ := three_boxes w x y none none hW
  have HA' : Hid (BigAt W (.agg #[.int .i64 x, .pointer none]) x) := HA.out.below hBW
  have HB' : Hid (BigAt W (.agg #[.int .i64 y, .pointer none]) y) := HB.out.below hBW
  obtain ⟨a0, a1, _, _⟩ := box_facts hA
  obtain ⟨b0, b1, _, _⟩ := box_facts hB
  have HNa : Hid (∀ w', Two W w.heap.size x y none none w' → Calls Tryd.prog 46 #[.agg #[.int .i64 x, .pointer none]] w' fun e w'' => e = .returned (.bool d1) ∧ Below w'.heap.size w' w'') :=
    fun w' h => by rw [E1.out]; exact negative_big x _ w' (HA'.out.below h.2.2.2.2.2)
  have HNb : Hid (∀ w', Two W w.heap.size x y none none w' → Calls Tryd.prog 46 #[.agg #[.int .i64 y, .pointer none]] w' fun e w'' => e = .returned (.bool d2) ∧ Below w'.heap.size w' w'') :=
    fun w' h => by rw [E2.out]; exact negative_big y _ w' (HB'.out.below h.2.2.2.2.2)
  have hS : Two W w.heap.size x y none none W.drew := Two.next ⟨a0, a1, b0, b1, by omega, Below.refl _ _⟩ (Below.refl _ _).drew
  clear hW
  go_region_held3 (fun w' => w'.cell? ⟨w.heap.size, 0, none⟩ = some (.int .i64 x) ∧ w'.cell? ⟨w.heap.size, 1, none⟩ = some (.pointer none) ∧ w'.cell? ⟨w.heap.size + 1, 0, none⟩ = some (.int .i64 y) ∧ w'.cell? ⟨w.heap.size + 1, 1, none⟩ = some (.pointer none) ∧ w.heap.size + 1 < w'.heap.size ∧ Below W.heap.size W w')
    (first | exact hS | (refine Two.next (by assumption) (by assumption)))
    (first
      | (go_at_call 46; refine calls_at (HNa.out _ (by assumption)) (by with_reducible rfl) (by with_reducible rfl) ?_; rintro e w' ⟨rfl, hb⟩)
      | (go_at_call 46; refine calls_at (HNb.out _ (by assumption)) (by with_reducible rfl) (by with_reducible rfl) ?_; rintro e w' ⟨rfl, hb⟩))
  rename_i hHeld
  have hWw : Below W.heap.size W w' := hHeld.2.2.2.2.2
  obtain ⟨t0, t1, t2, t3, t4, _⟩ := id hHeld
  generalize (!(d1 == d2)) = dd at *
  have HSa : Hid (∀ v', Two W w.heap.size x y none none v' → Calls Tryd.prog 57 #[.int .i64 x] v' fun e w'' => e = .returned (.int .u64 (x.natAbs : Int)) ∧ Below v'.heap.size v' w'') :=
    fun v' _ => (size_any x v' hfx.1 hfx.2).mono fun e w'' ⟨h1, h2⟩ => ⟨h1, by rw [h2]; exact Below.refl _ _⟩
  have HSb : Hid (∀ v', Two W w.heap.size x y none none v' → Calls Tryd.prog 57 #[.int .i64 y] v' fun e w'' => e = .returned (.int .u64 (y.natAbs : Int)) ∧ Below v'.heap.size v' w'') :=
    fun v' _ => (size_any y v' hfy.1 hfy.2).mono fun e w'' ⟨h1, h2⟩ => ⟨h1, by rw [h2]; exact Below.refl _ _⟩
  have HMu : Hid (∀ v', Two W w.heap.size x y none none v' → Calls Tryd.prog 56 #[.int .u64 (x.natAbs : Int), .int .u64 (y.natAbs : Int)] v' fun e w'' => e = .returned (.tuple #[.int .u64 (H : Int), .int .u64 (L : Int)]) ∧ Below v'.heap.size v' w'') := by
    intro v' _
    rw [HM.out, HL.out]
    exact (Tryd.bits_Mul64 x.natAbs y.natAbs (by have := hfx; unfold Fits at this; omega) (by have := hfy; unfold Fits at this; omega) v').mono fun e w'' ⟨h1, h2⟩ => ⟨h1, by rw [h2]; exact Below.refl _ _⟩
  have hS' : Two W w.heap.size x y none none w'.drew := Two.next hHeld (Below.refl _ _).drew
  clear hHeld hS HNa HNb
  go_wp2_with fail
  go_region_held3 (fun v' => v'.cell? ⟨w.heap.size, 0, none⟩ = some (.int .i64 x) ∧ v'.cell? ⟨w.heap.size, 1, none⟩ = some (.pointer none) ∧ v'.cell? ⟨w.heap.size + 1, 0, none⟩ = some (.int .i64 y) ∧ v'.cell? ⟨w.heap.size + 1, 1, none⟩ = some (.pointer none) ∧ w.heap.size + 1 < v'.heap.size ∧ Below W.heap.size W v')
    (first | exact hS' | (refine Two.next (by assumption) (by assumption)))
    (first
      | (go_at_call 57; refine calls_at (HSa.out _ (by assumption)) (by with_reducible rfl) (by with_reducible rfl) ?_; rintro e w' ⟨rfl, hb⟩)
      | (go_at_call 57; refine calls_at (HSb.out _ (by assumption)) (by with_reducible rfl) (by with_reducible rfl) ?_; rintro e w' ⟨rfl, hb⟩)
      | (go_at_call 56; refine calls_at (HMu.out _ (by assumption)) (by with_reducible rfl) (by with_reducible rfl) ?_; rintro e w' ⟨rfl, hb⟩))
  rename_i hHeld
  have hWw : Below W.heap.size W w' := hHeld.2.2.2.2.2
  obtain ⟨t0, t1, t2, t3, t4, _⟩ := id hHeld
  go_wp2_with fail
  refine (settledSmall_any dd L _ HLb.out).mono ?_
  rintro e w4 ⟨r, rfl, hr, hb4⟩
  obtain ⟨y3, q4, hr3⟩ := hr.shape
  subst hr3
  have hb04 : Below W.heap.size W w4 := hWw.trans (hb4.mono hWw.size)
  have hR2 := (hb04.block (w.heap.size + 1 + 1) (by omega)).trans hR
  obtain ⟨r0, r1, r2, r3⟩ := box_facts hR2
  obtain ⟨m0, m1⟩ := box_set hR2 (.int .i64 y3) (.pointer q4)
  rw [HLE.out, HE.out] at hr
  go_wp2
  exact bodyPost_ret (v := .agg #[.int .i64 y3, .pointer q4]) (by simp [results, Tryd.results27, go_sem, m0, m1]) rfl ⟨_, rfl, hr.setBox hR2 _ _, ((hBW.trans (hb04.mono hBW.size)).setCell (p := ⟨w.heap.size + 1 + 1, 0, none⟩) (by show w.heap.size ≤ w.heap.size + 1 + 1; omega) _).setCell (p := ⟨w.heap.size + 1 + 1, 1, none⟩) (by show w.heap.size ≤ w.heap.size + 1 + 1; omega) _⟩

set_option maxRecDepth 100000 in
set_option maxHeartbeats 1000000 in
/-- Mul, of two ints. -/
theorem mul_over (x y : Int) (H L : Nat) (hfx : Fits x) (hfy : Fits y) (HM : Hid (H = x.natAbs * y.natAbs / 18446744073709551616)) (HL : Hid (L = x.natAbs * y.natAbs % 18446744073709551616)) (hH : ((H : Int) == 0) = false) (w : World) (HA : Hid (BigAt w (.agg #[.int .i64 x, .pointer none]) x)) (HB : Hid (BigAt w (.agg #[.int .i64 y, .pointer none]) y)) (hx : (limbs x.natAbs).length ≤ 1000000) (hy : (limbs y.natAbs).length ≤ 1000000) :
    Calls Tryd.prog 27 #[.agg #[.int .i64 x, .pointer none], .agg #[.int .i64 y, .pointer none]] w fun e w' => ∃ r, e = .returned r ∧ BigAt w' r (x * y) ∧ Below w.heap.size w w' := by
  obtain ⟨d1, E1⟩ : ∃ d1, Hid (d1 = decide (x < 0)) := ⟨_, rfl⟩
  obtain ⟨d2, E2⟩ : ∃ d2, Hid (d2 = decide (y < 0)) := ⟨_, rfl⟩
  have HE : Hid (sg (!(d1 == d2)) (x.natAbs * y.natAbs) = x * y) := by show _ = _; rw [E1.out, E2.out]; exact sg_mul x y
  go_enter Tryd.func27, Tryd.ntmps27
  go_wp2_with fail
  generalize hW : ((w.alloc (.cells #[.int .i64 x, .pointer none] 24)).alloc (.cells #[.int .i64 y, .pointer none] 24)).alloc (.cells #[.int .i64 0, .pointer none] 24) = W
  obtain ⟨hA, hB, hR, hBW, hsz⟩ := three_boxes w x y none none hW
  have HA' : Hid (BigAt W (.agg #[.int .i64 x, .pointer none]) x) := HA.out.below hBW
  have HB' : Hid (BigAt W (.agg #[.int .i64 y, .pointer none]) y) := HB.out.below hBW
  obtain ⟨a0, a1, _, _⟩ := box_facts hA
  obtain ⟨b0, b1, _, _⟩ := box_facts hB
  have HNa : Hid (∀ w', Two W w.heap.size x y none none w' → Calls Tryd.prog 46 #[.agg #[.int .i64 x, .pointer none]] w' fun e w'' => e = .returned (.bool d1) ∧ Below w'.heap.size w' w'') :=
    fun w' h => by rw [E1.out]; exact negative_big x _ w' (HA'.out.below h.2.2.2.2.2)
  have HNb : Hid (∀ w', Two W w.heap.size x y none none w' → Calls Tryd.prog 46 #[.agg #[.int .i64 y, .pointer none]] w' fun e w'' => e = .returned (.bool d2) ∧ Below w'.heap.size w' w'') :=
    fun w' h => by rw [E2.out]; exact negative_big y _ w' (HB'.out.below h.2.2.2.2.2)
  have hS : Two W w.heap.size x y none none W.drew := Two.next ⟨a0, a1, b0, b1, by omega, Below.refl _ _⟩ (Below.refl _ _).drew
  clear hW
  go_region_held3 (fun w' => w'.cell? ⟨w.heap.size, 0, none⟩ = some (.int .i64 x) ∧ w'.cell? ⟨w.heap.size, 1, none⟩ = some (.pointer none) ∧ w'.cell? ⟨w.heap.size + 1, 0, none⟩ = some (.int .i64 y) ∧ w'.cell? ⟨w.heap.size + 1, 1, none⟩ = some (.pointer none) ∧ w.heap.size + 1 < w'.heap.size ∧ Below W.heap.size W w')
    (first | exact hS | (refine Two.next (by assumption) (by assumption)))
    (first
      | (go_at_call 46; refine calls_at (HNa.out _ (by assumption)) (by with_reducible rfl) (by with_reducible rfl) ?_; rintro e w' ⟨rfl, hb⟩)
      | (go_at_call 46; refine calls_at (HNb.out _ (by assumption)) (by with_reducible rfl) (by with_reducible rfl) ?_; rintro e w' ⟨rfl, hb⟩))
  rename_i hHeld
  have hWw : Below W.heap.size W w' := hHeld.2.2.2.2.2
  obtain ⟨t0, t1, t2, t3, t4, _⟩ := id hHeld
  generalize (!(d1 == d2)) = dd at *
  have HSa : Hid (∀ v', Two W w.heap.size x y none none v' → Calls Tryd.prog 57 #[.int .i64 x] v' fun e w'' => e = .returned (.int .u64 (x.natAbs : Int)) ∧ Below v'.heap.size v' w'') :=
    fun v' _ => (size_any x v' hfx.1 hfx.2).mono fun e w'' ⟨h1, h2⟩ => ⟨h1, by rw [h2]; exact Below.refl _ _⟩
  have HSb : Hid (∀ v', Two W w.heap.size x y none none v' → Calls Tryd.prog 57 #[.int .i64 y] v' fun e w'' => e = .returned (.int .u64 (y.natAbs : Int)) ∧ Below v'.heap.size v' w'') :=
    fun v' _ => (size_any y v' hfy.1 hfy.2).mono fun e w'' ⟨h1, h2⟩ => ⟨h1, by rw [h2]; exact Below.refl _ _⟩
  have HMu : Hid (∀ v', Two W w.heap.size x y none none v' → Calls Tryd.prog 56 #[.int .u64 (x.natAbs : Int), .int .u64 (y.natAbs : Int)] v' fun e w'' => e = .returned (.tuple #[.int .u64 (H : Int), .int .u64 (L : Int)]) ∧ Below v'.heap.size v' w'') := by
    intro v' _
    rw [HM.out, HL.out]
    exact (Tryd.bits_Mul64 x.natAbs y.natAbs (by have := hfx; unfold Fits at this; omega) (by have := hfy; unfold Fits at this; omega) v').mono fun e w'' ⟨h1, h2⟩ => ⟨h1, by rw [h2]; exact Below.refl _ _⟩
  have hS' : Two W w.heap.size x y none none w'.drew := Two.next hHeld (Below.refl _ _).drew
  clear hHeld hS HNa HNb
  go_wp2_with fail
  go_region_held3 (fun v' => v'.cell? ⟨w.heap.size, 0, none⟩ = some (.int .i64 x) ∧ v'.cell? ⟨w.heap.size, 1, none⟩ = some (.pointer none) ∧ v'.cell? ⟨w.heap.size + 1, 0, none⟩ = some (.int .i64 y) ∧ v'.cell? ⟨w.heap.size + 1, 1, none⟩ = some (.pointer none) ∧ w.heap.size + 1 < v'.heap.size ∧ Below W.heap.size W v')
    (first | exact hS' | (refine Two.next (by assumption) (by assumption)))
    (first
      | (go_at_call 57; refine calls_at (HSa.out _ (by assumption)) (by with_reducible rfl) (by with_reducible rfl) ?_; rintro e w' ⟨rfl, hb⟩)
      | (go_at_call 57; refine calls_at (HSb.out _ (by assumption)) (by with_reducible rfl) (by with_reducible rfl) ?_; rintro e w' ⟨rfl, hb⟩)
      | (go_at_call 56; refine calls_at (HMu.out _ (by assumption)) (by with_reducible rfl) (by with_reducible rfl) ?_; rintro e w' ⟨rfl, hb⟩))
  rename_i hHeld
  have hWw : Below W.heap.size W w' := hHeld.2.2.2.2.2
  obtain ⟨t0, t1, t2, t3, t4, _⟩ := id hHeld
  go_wp2_with fail
  have HCa : Hid (Calls Tryd.prog 49 #[.agg #[.int .i64 x, .pointer none]] w'.drew fun e w'' => ∃ r, e = .returned r ∧ U32At w'' r (limbs x.natAbs) ∧ Below w'.heap.size w' w'') :=
    (limbs_any x _ w'.drew (HA'.out.below hWw.drew)).mono fun e w'' ⟨r, h1, h2, h3⟩ => ⟨r, h1, h2, (Below.refl w'.heap.size w').drew.trans h3⟩
  have HCb : Hid (∀ w1, Below w'.heap.size w' w1 → Calls Tryd.prog 49 #[.agg #[.int .i64 y, .pointer none]] w1 fun e w'' => ∃ r, e = .returned r ∧ U32At w'' r (limbs y.natAbs) ∧ Below w1.heap.size w1 w'') :=
    fun w1 h => limbs_any y _ w1 ((HB'.out.below hWw).below h)
  have HT : Hid (Two W w.heap.size x y none none w') := hHeld
  clear hHeld
  go_region_with (first
    | (go_at_call 49; refine calls_at HCa.out (by with_reducible rfl) (by with_reducible rfl) ?_; rintro e w1 ⟨xv, rfl, hUx, hb1⟩; obtain ⟨_, _, b01, b11, _, _⟩ := Two.next HT.out hb1; obtain ⟨xa, xc, hxv, _⟩ := hUx.form; subst hxv)
    | (go_at_call 49; refine calls_at (HCb.out _ hb1) (by with_reducible rfl) (by with_reducible rfl) ?_; rintro e w2 ⟨yv, rfl, hUy, hb2⟩; obtain ⟨ya, yc, hyv, _⟩ := hUy.form; subst hyv)
    | (go_at_call 59; refine calls_at (mulLimbs_any x.natAbs y.natAbs _ _ w2 (hUx.below hb2) hUy (by omega) (by omega)) (by with_reducible rfl) (by with_reducible rfl) ?_; rintro e w3 ⟨pv, rfl, hUp, hb3⟩; obtain ⟨ma, mc, hpv, _⟩ := hUp.form; subst hpv)
    | (go_at_call 36; refine calls_at (settled_any dd (x.natAbs * y.natAbs) _ w3 hUp) (by with_reducible rfl) (by with_reducible rfl) ?_; rintro e w4 ⟨r, rfl, hr, hb4⟩; obtain ⟨y3, q4, hr3⟩ := hr.shape; subst hr3; have hb02 : Below W.heap.size W w2 := hWw.trans ((hb1.mono hWw.size).trans (hb2.mono (Nat.le_trans hWw.size hb1.size))); have hb04 : Below W.heap.size W w4 := hb02.trans ((hb3.mono hb02.size).trans (hb4.mono (Nat.le_trans hb02.size hb3.size))); have hR2 := (hb04.block (w.heap.size + 1 + 1) (by omega)).trans hR; obtain ⟨r0, r1, r2, r3⟩ := box_facts hR2))
  all_goals
    obtain ⟨m0, m1⟩ := box_set hR2 (.int .i64 y3) (.pointer q4)
    rw [HE.out] at hr
    go_wp2
    exact bodyPost_ret (v := .agg #[.int .i64 y3, .pointer q4]) (by simp [results, Tryd.results27, go_sem, m0, m1]) rfl ⟨_, rfl, hr.setBox hR2 _ _, ((hBW.trans (hb04.mono hBW.size)).setCell (p := ⟨w.heap.size + 1 + 1, 0, none⟩) (by show w.heap.size ≤ w.heap.size + 1 + 1; omega) _).setCell (p := ⟨w.heap.size + 1 + 1, 1, none⟩) (by show w.heap.size ≤ w.heap.size + 1 + 1; omega) _⟩

/-- Mul. -/
theorem mul_big (x y : Int) (va vb : Value) (w : World) (ha : BigAt w va x) (hb : BigAt w vb y) (hx : (limbs x.natAbs).length ≤ 1000000) (hy : (limbs y.natAbs).length ≤ 1000000) :
    Calls Tryd.prog 27 #[va, vb] w fun e w' => ∃ r, e = .returned r ∧ BigAt w' r (x * y) ∧ Below w.heap.size w w' := by
  have HA : Hid (BigAt w va x) := ha
  have HB : Hid (BigAt w vb y) := hb
  rcases ha with ⟨hfx, rfl⟩ | ⟨_, p, s, rfl, _⟩
  · rcases hb with ⟨hfy, rfl⟩ | ⟨_, p, s, rfl, _⟩
    · by_cases hm : x.natAbs * y.natAbs < 18446744073709551616
      · exact mul_small x y _ _ hfx hfy rfl rfl (by rw [Nat.div_eq_of_lt hm]; rfl) (Nat.mod_lt _ (by decide)) (Nat.mod_eq_of_lt hm) w HA HB
      · refine mul_over x y _ _ hfx hfy rfl rfl ?_ w HA HB hx hy
        rw [beq_eq_false_iff_ne]
        intro h
        have h0 : x.natAbs * y.natAbs / 18446744073709551616 = 0 := by exact_mod_cast h
        rcases Nat.div_eq_zero_iff.1 h0 with h1 | h1
        · cases h1
        · exact hm h1
    · exact mul_wideB x y _ _ _ w HA HB hx hy
  · obtain ⟨n2, q2, rfl⟩ := hb.shape
    exact mul_wideA x y _ _ _ _ w HA HB hx hy

end Go.Proofs.YtangepgiamhenaaDoor
