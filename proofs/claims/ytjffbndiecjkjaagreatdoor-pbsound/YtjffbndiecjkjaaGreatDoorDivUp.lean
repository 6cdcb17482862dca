/-
  Package big: DivUp.
-/
import Derived.Test.YtjffbndiecjkjaaGreatDoorDivAll
import Derived.Test.YtjffbndiecjkjaaGreatDoorDivIs
import Derived.Test.YtjffbndiecjkjaaGreatDoorMulAll
import Derived.Test.YtjffbndiecjkjaaGreatDoorCmp
import Derived.Test.YtjffbndiecjkjaaGreatDoorIsBig
import Derived.Test.YtjffbndiecjkjaaGreatDoorParse
import Derived.Test.YtjffbndiecjkjaaGreatDoorBigSums
namespace Go.Proofs.YtjffbndiecjkjaaGreatDoor
open Go.RowKit
open Bn (limbs)
attribute [local go_sem ↓] Go.wp_at_zero Go.wp_at_succ

theorem new_box (w : World) (y : Int) (q : Option Addr) {W : World} (hW : w.alloc (.cells #[.int .i64 y, .pointer q] 33) = W) :
    W.heap[w.heap.size]? = some (.cells #[.int .i64 y, .pointer q] 33) ∧ Below w.heap.size w W ∧ W.heap.size = w.heap.size + 1 := by
  subst hW
  exact ⟨World.alloc_heap_new w _, (Below.refl _ _).alloc (Nat.le_refl _) _, by simp⟩

/-- What a text of a number says is its text. -/

theorem limbs_mono {a b n : Nat} (h : a ≤ b) (hb : (limbs b).length ≤ n) : (limbs a).length ≤ n := by
  rw [Bn.limbs_length_le] at *; omega
theorem one_len : (limbs (1 : Int).natAbs).length ≤ 1000000 := by
  have : (limbs (1 : Int).natAbs).length ≤ 1 := by rw [Bn.limbs_length_le]; decide
  omega
theorem divUp_below {x y : Int} (hy : 0 < y) (hx : x < 0) : sg true (x.natAbs / y.natAbs) = divUpI x y := by
  obtain ⟨a, rfl⟩ : ∃ a : Nat, x = -(a : Int) := ⟨x.natAbs, by omega⟩
  obtain ⟨b, rfl⟩ : ∃ b : Nat, y = (b : Int) := ⟨y.natAbs, by omega⟩
  unfold sg divUpI
  rw [if_pos rfl, Int.neg_neg, Int.natAbs_neg, Int.natAbs_natCast, Int.natAbs_natCast]; rfl
theorem divUp_exact {x y : Int} {d : Bool} (hy : 0 < y) (hd : d = decide (x < 0)) (he : decide (x.natAbs % y.natAbs = 0) = true) : sg d (x.natAbs / y.natAbs) = divUpI x y := by
  by_cases hx : x < 0
  · rw [hd, decide_eq_true hx]; exact divUp_below hy hx
  · rw [hd, decide_eq_false hx]
    obtain ⟨a, rfl⟩ : ∃ a : Nat, x = (a : Int) := ⟨x.natAbs, by omega⟩
    obtain ⟨b, rfl⟩ : ∃ b : Nat, y = (b : Int) := ⟨y.natAbs, by omega⟩
    rw [Int.natAbs_natCast, Int.natAbs_natCast] at *
    rw [← divUpI_zero hy (by have := of_decide_eq_true he; omega)]; rfl
theorem divUp_above {x y : Int} (hy : 0 < y) (hx : ¬ x < 0) (he : x.natAbs % y.natAbs ≠ 0) : sg false (x.natAbs / y.natAbs) + 1 = divUpI x y := by
  obtain ⟨a, rfl⟩ : ∃ a : Nat, x = (a : Int) := ⟨x.natAbs, by omega⟩
  obtain ⟨b, rfl⟩ : ∃ b : Nat, y = (b : Int) := ⟨y.natAbs, by omega⟩
  rw [Int.natAbs_natCast, Int.natAbs_natCast] at *
  rw [← divUpI_pos hy (by omega)]; rfl

set_option maxRecDepth 100000 in
set_option maxHeartbeats 2000000 in
/-- DivUp, where a is no int. -/
theorem divUp_wideA (x y : Int) (n1 n2 : Int) (p1 : Addr) (q2 : Option Addr) (w : World) (HA : Hid (BigAt w (.agg #[.int .i64 n1, .pointer (some p1)]) x)) (HB : Hid (BigAt w (.agg #[.int .i64 n2, .pointer q2]) y)) (hx : (limbs x.natAbs).length ≤ 1000000) (hy : 0 < y) :
    Calls Tryz.prog 60 #[.agg #[.int .i64 n1, .pointer (some p1)], .agg #[.int .i64 n2, .pointer q2]] w fun e w' => ∃ r, e = .returned (.tuple #[r, .int .i64 0]) ∧ BigAt w' r (divUpI x y) ∧ Below w.heap.size w w' := by
  obtain ⟨d1, E1⟩ : ∃ d1, Hid (d1 = decide (x < 0)) := ⟨_, rfl⟩
  obtain ⟨d2, E2⟩ : ∃ d2, Hid (d2 = decide (x.natAbs % y.natAbs = 0)) := ⟨_, rfl⟩
  have hy0 : 0 < y.natAbs := by omega
  have hs : y.sign = 1 := Int.sign_eq_one_of_pos hy
  go_enter Tryz.func60, Tryz.ntmps60
  go_wp2_with fail
  generalize hW : ((w.alloc (.cells #[.int .i64 n1, .pointer (some p1)] 33)).alloc (.cells #[.int .i64 n2, .pointer q2] 33)).alloc (.cells #[.int .i64 0, .pointer none] 33) = W
  obtain ⟨hA, hB, hR, hBW, hsz⟩ := three_boxes w n1 n2 (some p1) q2 hW
  clear hW
  refine (sign_big y _ _ (HB.out.below hBW)).mono ?_
  rintro e w' ⟨rfl, hb1⟩
  rw [hs]
  have HA' : Hid (BigAt W (.agg #[.int .i64 n1, .pointer (some p1)]) x) := HA.out.below hBW
  have HB' : Hid (BigAt W (.agg #[.int .i64 n2, .pointer q2]) y) := HB.out.below hBW
  obtain ⟨a0, a1, _, _⟩ := box_facts hA
  obtain ⟨b0, b1, _, _⟩ := box_facts hB
  have hS : Two W w.heap.size n1 n2 (some p1) q2 w' := Two.next ⟨a0, a1, b0, b1, by omega, Below.refl _ _⟩ hb1
  have HNa : Hid (∀ w', Two W w.heap.size n1 n2 (some p1) q2 w' → Calls Tryz.prog 46 #[.agg #[.int .i64 n1, .pointer (some p1)]] w' fun e w'' => e = .returned (.bool d1) ∧ Below w'.heap.size w' w'') :=
    fun w' h => by rw [E1.out]; exact negative_big x _ w' (HA'.out.below h.2.2.2.2.2)
  have hWw : Below W.heap.size W w' := hS.2.2.2.2.2
  obtain ⟨t0, t1, t2, t3, t4, _⟩ := id hS
  have HT : Hid (Two W w.heap.size n1 n2 (some p1) q2 w') := hS
  clear hS a0 a1 b0 b1 hb1
  go_wp2_with fail
  have HCa : Hid (Calls Tryz.prog 63 #[.agg #[.int .i64 n1, .pointer (some p1)]] w'.drew fun e w'' => ∃ r, e = .returned r ∧ U32At w'' r (limbs x.natAbs) ∧ Below w'.heap.size w' w'') :=
    (limbs_any x _ w'.drew (HA'.out.below hWw.drew)).mono fun e w'' ⟨r, h1, h2, h3⟩ => ⟨r, h1, h2, (Below.refl w'.heap.size w').drew.trans h3⟩
  have HCb : Hid (∀ w1, Below w'.heap.size w' w1 → Calls Tryz.prog 63 #[.agg #[.int .i64 n2, .pointer q2]] w1 fun e w'' => ∃ r, e = .returned r ∧ U32At w'' r (limbs y.natAbs) ∧ Below w1.heap.size w1 w'') :=
    fun w1 h => limbs_any y _ w1 ((HB'.out.below hWw).below h)
  go_region_with (first
    | (go_at_call 63; refine calls_at HCa.out (by with_reducible rfl) (by with_reducible rfl) ?_; rintro e w1 ⟨xv, rfl, hUx, hb1⟩; obtain ⟨_, _, b01, b11, _, _⟩ := Two.next HT.out hb1; obtain ⟨xa, xc, hxv, _⟩ := hUx.form; subst hxv)
    | (go_at_call 63; refine calls_at (HCb.out _ hb1) (by with_reducible rfl) (by with_reducible rfl) ?_; rintro e w2 ⟨yv, rfl, hUy, hb2⟩; obtain ⟨ya, yc, hyv, _⟩ := hUy.form; subst hyv)
    | (go_at_call 87; refine calls_at (divLimbs_any x.natAbs y.natAbs _ _ w2 (hUx.below hb2) hUy (by omega) hy0) (by with_reducible rfl) (by with_reducible rfl) ?_; rintro e w3 ⟨qv, rfl, hUq, hb3⟩; rw [← E2.out]; obtain ⟨qa, qc, hqv, _⟩ := hUq.form; subst hqv; have HT3 : Hid (Two W w.heap.size n1 n2 (some p1) q2 w3) := ((HT.out.next hb1).next hb2).next hb3; obtain ⟨s0, s1, _, _, _, _⟩ := HT3.out))
  all_goals
    clear HCa HCb hy0
    go_wp2_with fail
    refine (HNa.out _ HT3.out).mono ?_
    rintro e w4 ⟨rfl, hb4⟩
    have hUq4 := hUq.below hb4
    go_wp2_with fail
    refine (settled_any d1 (x.natAbs / y.natAbs) _ w4 hUq4).mono ?_
    rintro e w5 ⟨r, rfl, hr, hb5⟩
    obtain ⟨yr, qr, hrs⟩ := hr.shape
    subst hrs
    have HT5 : Hid (Two W w.heap.size n1 n2 (some p1) q2 w5) := (HT3.out.next hb4).next hb5
    have HR5 : Hid (BigAt w5 (.agg #[.int .i64 yr, .pointer qr]) (sg d1 (x.natAbs / y.natAbs))) := hr
    clear hr hUq4 hUq hb5 hb4 hb3 hb2 hb1 hUx hUy HT3 s0 s1 b01 b11 t0 t1 t2 t3
    obtain ⟨W6, hW6⟩ : ∃ W6, w5.alloc (.cells #[.int .i64 yr, .pointer qr] 33) = W6 := ⟨_, rfl⟩
    obtain ⟨bQ, hB6, hs6⟩ := new_box w5 yr qr hW6
    have HT6 : Hid (Two W w.heap.size n1 n2 (some p1) q2 W6) := HT5.out.next hB6
    have HR6 : Hid (BigAt W6 (.agg #[.int .i64 yr, .pointer qr]) (sg d1 (x.natAbs / y.natAbs))) := HR5.out.below hB6
    obtain ⟨c0, c1, _, _⟩ := box_facts bQ
    obtain ⟨a0, a1, _, _, hNs, hBW6⟩ := id HT6.out
    have hR6 := (hBW6.block (w.heap.size + 1 + 1) (by omega)).trans hR
    obtain ⟨r0, r1, r2, r3⟩ := box_facts hR6
    obtain ⟨m0, m1⟩ := box_set hR6 (.int .i64 yr) (.pointer qr)
    have hq5 : w.heap.size + 1 + 1 < w5.heap.size := by have := HT5.out.2.2.2.2.2.size; omega
    cases d2 with
    | true =>
      have HE : Hid (sg d1 (x.natAbs / y.natAbs) = divUpI x y) := divUp_exact hy E1.out E2.out.symm
      have HF : Hid (BigAt W6 (.agg #[.int .i64 yr, .pointer qr]) (divUpI x y)) := by
        have := HR6.out; rw [HE.out] at this; exact this
      have hBfin : Below w.heap.size w W6 := hBW.trans (hBW6.mono hBW.size)
      go_wp2_with fail
      exact bodyPost_ret (v := .tuple #[.agg #[.int .i64 yr, .pointer qr], .int .i64 0]) (by simp [results, Tryz.results60, go_sem, m0, m1]) rfl ⟨_, rfl, HF.out.setBox hR6 _ _, ((hBfin.setCell (p := ⟨w.heap.size + 1 + 1, 0, none⟩) (by show w.heap.size ≤ w.heap.size + 1 + 1; omega) _).setCell (p := ⟨w.heap.size + 1 + 1, 1, none⟩) (by show w.heap.size ≤ w.heap.size + 1 + 1; omega) _)⟩
    | false =>
      have hlq : (limbs (sg d1 (x.natAbs / y.natAbs)).natAbs).length ≤ 1000000 := by
        rw [sg_abs]
        exact limbs_mono (Nat.div_le_self _ _) hx
      clear m0 m1 r0 r1 r2 r3
      go_wp2_with fail
      refine (HNa.out _ HT6.out).mono ?_
      rintro e w7 ⟨rfl, hb7⟩
      have hs7 := hb7.size
      have bQ7 := (hb7.block w5.heap.size (by omega)).trans bQ
      have hR7 := (hb7.block (w.heap.size + 1 + 1) (by omega)).trans hR6
      have HR7 : Hid (BigAt w7 (.agg #[.int .i64 yr, .pointer qr]) (sg d1 (x.natAbs / y.natAbs))) := HR6.out.below hb7
      have hBw7 : Below w.heap.size w w7 := (hBW.trans (hBW6.mono hBW.size)).trans (hb7.mono (Nat.le_trans hBW.size hBW6.size))
      obtain ⟨e0, e1, _, _⟩ := box_facts bQ7
      clear c0 c1 a0 a1 hW6
      cases d1 with
      | true =>
        have HE : Hid (sg true (x.natAbs / y.natAbs) = divUpI x y) := divUp_below hy (of_decide_eq_true E1.out.symm)
        have HF : Hid (BigAt w7 (.agg #[.int .i64 yr, .pointer qr]) (divUpI x y)) := by
          have := HR7.out; rw [HE.out] at this; exact this
        obtain ⟨r0, r1, r2, r3⟩ := box_facts hR7
        obtain ⟨m0, m1⟩ := box_set hR7 (.int .i64 yr) (.pointer qr)
        have hBfin : Below w.heap.size w w7 := hBw7
        go_wp2_with fail
        exact bodyPost_ret (v := .tuple #[.agg #[.int .i64 yr, .pointer qr], .int .i64 0]) (by simp [results, Tryz.results60, go_sem, m0, m1]) rfl ⟨_, rfl, HF.out.setBox hR7 _ _, ((hBfin.setCell (p := ⟨w.heap.size + 1 + 1, 0, none⟩) (by show w.heap.size ≤ w.heap.size + 1 + 1; omega) _).setCell (p := ⟨w.heap.size + 1 + 1, 1, none⟩) (by show w.heap.size ≤ w.heap.size + 1 + 1; omega) _)⟩
      | false =>
        have HE : Hid (sg false (x.natAbs / y.natAbs) + 1 = divUpI x y) := divUp_above hy (of_decide_eq_false E1.out.symm) (of_decide_eq_false E2.out.symm)
        have HAdd : Hid (∀ w8, Below w7.heap.size w7 w8 → Calls Tryz.prog 29 #[.agg #[.int .i64 yr, .pointer qr], .agg #[.int .i64 1, .pointer none]] w8 fun e w' => ∃ r, e = .returned r ∧ BigAt w' r (divUpI x y) ∧ Below w8.heap.size w8 w') := by
          intro w8 h
          have := add_big (sg false (x.natAbs / y.natAbs)) 1 _ _ w8 (HR7.out.below h) (.inl ⟨by unfold Fits; omega, rfl⟩) hlq one_len
          rw [HE.out] at this; exact this
        go_wp2_with fail
        go_region_with (first
          | (go_at_call 33; refine calls_at (of_any 1 _) (by with_reducible rfl) (by with_reducible rfl) ?_; rintro e w8 ⟨rfl, hb8⟩; have bQ8 := (hb8.block w5.heap.size (by show w5.heap.size < w7.heap.size; omega)).trans bQ7; obtain ⟨f0, f1, _, _⟩ := box_facts bQ8; have hb78 : Below w7.heap.size w7 w8 := (Below.refl w7.heap.size w7).drew.trans hb8)
          | (go_at_call 29; refine calls_at (HAdd.out _ hb78) (by with_reducible rfl) (by with_reducible rfl) ?_; rintro e w9 ⟨r, rfl, hr, hb9⟩; obtain ⟨y9, q9, hr9⟩ := hr.shape; subst hr9; have hR9 := (hb9.block (w.heap.size + 1 + 1) (by have := hb78.size; omega)).trans ((hb78.block (w.heap.size + 1 + 1) (by omega)).trans hR7); obtain ⟨r0, r1, r2, r3⟩ := box_facts hR9))
        all_goals
          obtain ⟨m0, m1⟩ := box_set hR9 (.int .i64 y9) (.pointer q9)
          have hBfin : Below w.heap.size w w9 := (hBw7.trans (hb78.mono hBw7.size)).trans (hb9.mono (Nat.le_trans hBw7.size hb78.size))
          go_wp2_with fail
          exact bodyPost_ret (v := .tuple #[.agg #[.int .i64 y9, .pointer q9], .int .i64 0]) (by simp [results, Tryz.results60, go_sem, m0, m1]) rfl ⟨_, rfl, hr.setBox hR9 _ _, ((hBfin.setCell (p := ⟨w.heap.size + 1 + 1, 0, none⟩) (by show w.heap.size ≤ w.heap.size + 1 + 1; omega) _).setCell (p := ⟨w.heap.size + 1 + 1, 1, none⟩) (by show w.heap.size ≤ w.heap.size + 1 + 1; omega) _)⟩

set_option maxRecDepth 100000 in
set_option maxHeartbeats 2000000 in
/-- DivUp, where b is no int. -/
theorem divUp_wideB (x y : Int) (n1 n2 : Int) (p2 : Addr) (w : World) (HA : Hid (BigAt w (.agg #[.int .i64 n1, .pointer none]) x)) (HB : Hid (BigAt w (.agg #[.int .i64 n2, .pointer (some p2)]) y)) (hx : (limbs x.natAbs).length ≤ 1000000) (hy : 0 < y) :
    Calls Tryz.prog 60 #[.agg #[.int .i64 n1, .pointer none], .agg #[.int .i64 n2, .pointer (some p2)]] w fun e w' => ∃ r, e = .returned (.tuple #[r, .int .i64 0]) ∧ BigAt w' r (divUpI x y) ∧ Below w.heap.size w w' := by
  obtain ⟨d1, E1⟩ : ∃ d1, Hid (d1 = decide (x < 0)) := ⟨_, rfl⟩
  obtain ⟨d2, E2⟩ : ∃ d2, Hid (d2 = decide (x.natAbs % y.natAbs = 0)) := ⟨_, rfl⟩
  have hy0 : 0 < y.natAbs := by omega
  have hs : y.sign = 1 := Int.sign_eq_one_of_pos hy
  go_enter Tryz.func60, Tryz.ntmps60
  go_wp2_with fail
  generalize hW : ((w.alloc (.cells #[.int .i64 n1, .pointer none] 33)).alloc (.cells #[.int .i64 n2, .pointer (some p2)] 33)).alloc (.cells #[.int .i64 0, .pointer none] 33) = W
  obtain ⟨hA, hB, hR, hBW, hsz⟩ := three_boxes w n1 n2 none (some p2) hW
  clear hW
  refine (sign_big y _ _ (HB.out.below hBW)).mono ?_
  rintro e w' ⟨rfl, hb1⟩
  rw [hs]
  have HA' : Hid (BigAt W (.agg #[.int .i64 n1, .pointer none]) x) := HA.out.below hBW
  have HB' : Hid (BigAt W (.agg #[.int .i64 n2, .pointer (some p2)]) y) := HB.out.below hBW
  obtain ⟨a0, a1, _, _⟩ := box_facts hA
  obtain ⟨b0, b1, _, _⟩ := box_facts hB
  have hS : Two W w.heap.size n1 n2 none (some p2) w' := Two.next ⟨a0, a1, b0, b1, by omega, Below.refl _ _⟩ hb1
  have HNa : Hid (∀ w', Two W w.heap.size n1 n2 none (some p2) w' → Calls Tryz.prog 46 #[.agg #[.int .i64 n1, .pointer none]] w' fun e w'' => e = .returned (.bool d1) ∧ Below w'.heap.size w' w'') :=
    fun w' h => by rw [E1.out]; exact negative_big x _ w' (HA'.out.below h.2.2.2.2.2)
  have hWw : Below W.heap.size W w' := hS.2.2.2.2.2
  obtain ⟨t0, t1, t2, t3, t4, _⟩ := id hS
  have HT : Hid (Two W w.heap.size n1 n2 none (some p2) w') := hS
  clear hS a0 a1 b0 b1 hb1
  go_wp2_with fail
  have HCa : Hid (Calls Tryz.prog 63 #[.agg #[.int .i64 n1, .pointer none]] w'.drew fun e w'' => ∃ r, e = .returned r ∧ U32At w'' r (limbs x.natAbs) ∧ Below w'.heap.size w' w'') :=
    (limbs_any x _ w'.drew (HA'.out.below hWw.drew)).mono fun e w'' ⟨r, h1, h2, h3⟩ => ⟨r, h1, h2, (Below.refl w'.heap.size w').drew.trans h3⟩
  have HCb : Hid (∀ w1, Below w'.heap.size w' w1 → Calls Tryz.prog 63 #[.agg #[.int .i64 n2, .pointer (some p2)]] w1 fun e w'' => ∃ r, e = .returned r ∧ U32At w'' r (limbs y.natAbs) ∧ Below w1.heap.size w1 w'') :=
    fun w1 h => limbs_any y _ w1 ((HB'.out.below hWw).below h)
  go_region_with (first
    | (go_at_call 63; refine calls_at HCa.out (by with_reducible rfl) (by with_reducible rfl) ?_; rintro e w1 ⟨xv, rfl, hUx, hb1⟩; obtain ⟨_, _, b01, b11, _, _⟩ := Two.next HT.out hb1; obtain ⟨xa, xc, hxv, _⟩ := hUx.form; subst hxv)
    | (go_at_call 63; refine calls_at (HCb.out _ hb1) (by with_reducible rfl) (by with_reducible rfl) ?_; rintro e w2 ⟨yv, rfl, hUy, hb2⟩; obtain ⟨ya, yc, hyv, _⟩ := hUy.form; subst hyv)
    | (go_at_call 87; refine calls_at (divLimbs_any x.natAbs y.natAbs _ _ w2 (hUx.below hb2) hUy (by omega) hy0) (by with_reducible rfl) (by with_reducible rfl) ?_; rintro e w3 ⟨qv, rfl, hUq, hb3⟩; rw [← E2.out]; obtain ⟨qa, qc, hqv, _⟩ := hUq.form; subst hqv; have HT3 : Hid (Two W w.heap.size n1 n2 none (some p2) w3) := ((HT.out.next hb1).next hb2).next hb3; obtain ⟨s0, s1, _, _, _, _⟩ := HT3.out))
  all_goals
    clear HCa HCb hy0
    go_wp2_with fail
    refine (HNa.out _ HT3.out).mono ?_
    rintro e w4 ⟨rfl, hb4⟩
    have hUq4 := hUq.below hb4
    go_wp2_with fail
    refine (settled_any d1 (x.natAbs / y.natAbs) _ w4 hUq4).mono ?_
    rintro e w5 ⟨r, rfl, hr, hb5⟩
    obtain ⟨yr, qr, hrs⟩ := hr.shape
    subst hrs
    have HT5 : Hid (Two W w.heap.size n1 n2 none (some p2) w5) := (HT3.out.next hb4).next hb5
    have HR5 : Hid (BigAt w5 (.agg #[.int .i64 yr, .pointer qr]) (sg d1 (x.natAbs / y.natAbs))) := hr
    clear hr hUq4 hUq hb5 hb4 hb3 hb2 hb1 hUx hUy HT3 s0 s1 b01 b11 t0 t1 t2 t3
    obtain ⟨W6, hW6⟩ : ∃ W6, w5.alloc (.cells #[.int .i64 yr, .pointer qr] 33) = W6 := ⟨_, rfl⟩
    obtain ⟨bQ, hB6, hs6⟩ := new_box w5 yr qr hW6
    have HT6 : Hid (Two W w.heap.size n1 n2 none (some p2) W6) := HT5.out.next hB6
    have HR6 : Hid (BigAt W6 (.agg #[.int .i64 yr, .pointer qr]) (sg d1 (x.natAbs / y.natAbs))) := HR5.out.below hB6
    obtain ⟨c0, c1, _, _⟩ := box_facts bQ
    obtain ⟨a0, a1, _, _, hNs, hBW6⟩ := id HT6.out
    have hR6 := (hBW6.block (w.heap.size + 1 + 1) (by omega)).trans hR
    obtain ⟨r0, r1, r2, r3⟩ := box_facts hR6
    obtain ⟨m0, m1⟩ := box_set hR6 (.int .i64 yr) (.pointer qr)
    have hq5 : w.heap.size + 1 + 1 < w5.heap.size := by have := HT5.out.2.2.2.2.2.size; omega
    cases d2 with
    | true =>
      have HE : Hid (sg d1 (x.natAbs / y.natAbs) = divUpI x y) := divUp_exact hy E1.out E2.out.symm
      have HF : Hid (BigAt W6 (.agg #[.int .i64 yr, .pointer qr]) (divUpI x y)) := by
        have := HR6.out; rw [HE.out] at this; exact this
      have hBfin : Below w.heap.size w W6 := hBW.trans (hBW6.mono hBW.size)
      go_wp2_with fail
      exact bodyPost_ret (v := .tuple #[.agg #[.int .i64 yr, .pointer qr], .int .i64 0]) (by simp [results, Tryz.results60, go_sem, m0, m1]) rfl ⟨_, rfl, HF.out.setBox hR6 _ _, ((hBfin.setCell (p := ⟨w.heap.size + 1 + 1, 0, none⟩) (by show w.heap.size ≤ w.heap.size + 1 + 1; omega) _).setCell (p := ⟨w.heap.size + 1 + 1, 1, none⟩) (by show w.heap.size ≤ w.heap.size + 1 + 1; omega) _)⟩
    | false =>
      have hlq : (limbs (sg d1 (x.natAbs / y.natAbs)).natAbs).length ≤ 1000000 := by
        rw [sg_abs]
        exact limbs_mono (Nat.div_le_self _ _) hx
      clear m0 m1 r0 r1 r2 r3
      go_wp2_with fail
      refine (HNa.out _ HT6.out).mono ?_
      rintro e w7 ⟨rfl, hb7⟩
      have hs7 := hb7.size
      have bQ7 := (hb7.block w5.heap.size (by omega)).trans bQ
      have hR7 := (hb7.block (w.heap.size + 1 + 1) (by omega)).trans hR6
      have HR7 : Hid (BigAt w7 (.agg #[.int .i64 yr, .pointer qr]) (sg d1 (x.natAbs / y.natAbs))) := HR6.out.below hb7
      have hBw7 : Below w.heap.size w w7 := (hBW.trans (hBW6.mono hBW.size)).trans (hb7.mono (Nat.le_trans hBW.size hBW6.size))
      obtain ⟨e0, e1, _, _⟩ := box_facts bQ7
      clear c0 c1 a0 a1 hW6
      cases d1 with
      | true =>
        have HE : Hid (sg true (x.natAbs / y.natAbs) = divUpI x y) := divUp_below hy (of_decide_eq_true E1.out.symm)
        have HF : Hid (BigAt w7 (.agg #[.int .i64 yr, .pointer qr]) (divUpI x y)) := by
          have := HR7.out; rw [HE.out] at this; exact this
        obtain ⟨r0, r1, r2, r3⟩ := box_facts hR7
        obtain ⟨m0, m1⟩ := box_set hR7 (.int .i64 yr) (.pointer qr)
        have hBfin : Below w.heap.size w w7 := hBw7
        go_wp2_with fail
        exact bodyPost_ret (v := .tuple #[.agg #[.int .i64 yr, .pointer qr], .int .i64 0]) (by simp [results, Tryz.results60, go_sem, m0, m1]) rfl ⟨_, rfl, HF.out.setBox hR7 _ _, ((hBfin.setCell (p := ⟨w.heap.size + 1 + 1, 0, none⟩) (by show w.heap.size ≤ w.heap.size + 1 + 1; omega) _).setCell (p := ⟨w.heap.size + 1 + 1, 1, none⟩) (by show w.heap.size ≤ w.heap.size + 1 + 1; omega) _)⟩
      | false =>
        have HE : Hid (sg false (x.natAbs / y.natAbs) + 1 = divUpI x y) := divUp_above hy (of_decide_eq_false E1.out.symm) (of_decide_eq_false E2.out.symm)
        have HAdd : Hid (∀ w8, Below w7.heap.size w7 w8 → Calls Tryz.prog 29 #[.agg #[.int .i64 yr, .pointer qr], .agg #[.int .i64 1, .pointer none]] w8 fun e w' => ∃ r, e = .returned r ∧ BigAt w' r (divUpI x y) ∧ Below w8.heap.size w8 w') := by
          intro w8 h
          have := add_big (sg false (x.natAbs / y.natAbs)) 1 _ _ w8 (HR7.out.below h) (.inl ⟨by unfold Fits; omega, rfl⟩) hlq one_len
          rw [HE.out] at this; exact this
        go_wp2_with fail
        go_region_with (first
          | (go_at_call 33; refine calls_at (of_any 1 _) (by with_reducible rfl) (by with_reducible rfl) ?_; rintro e w8 ⟨rfl, hb8⟩; have bQ8 := (hb8.block w5.heap.size (by show w5.heap.size < w7.heap.size; omega)).trans bQ7; obtain ⟨f0, f1, _, _⟩ := box_facts bQ8; have hb78 : Below w7.heap.size w7 w8 := (Below.refl w7.heap.size w7).drew.trans hb8)
          | (go_at_call 29; refine calls_at (HAdd.out _ hb78) (by with_reducible rfl) (by with_reducible rfl) ?_; rintro e w9 ⟨r, rfl, hr, hb9⟩; obtain ⟨y9, q9, hr9⟩ := hr.shape; subst hr9; have hR9 := (hb9.block (w.heap.size + 1 + 1) (by have := hb78.size; omega)).trans ((hb78.block (w.heap.size + 1 + 1) (by omega)).trans hR7); obtain ⟨r0, r1, r2, r3⟩ := box_facts hR9))
        all_goals
          obtain ⟨m0, m1⟩ := box_set hR9 (.int .i64 y9) (.pointer q9)
          have hBfin : Below w.heap.size w w9 := (hBw7.trans (hb78.mono hBw7.size)).trans (hb9.mono (Nat.le_trans hBw7.size hb78.size))
          go_wp2_with fail
          exact bodyPost_ret (v := .tuple #[.agg #[.int .i64 y9, .pointer q9], .int .i64 0]) (by simp [results, Tryz.results60, go_sem, m0, m1]) rfl ⟨_, rfl, hr.setBox hR9 _ _, ((hBfin.setCell (p := ⟨w.heap.size + 1 + 1, 0, none⟩) (by show w.heap.size ≤ w.heap.size + 1 + 1; omega) _).setCell (p := ⟨w.heap.size + 1 + 1, 1, none⟩) (by show w.heap.size ≤ w.heap.size + 1 + 1; omega) _)⟩

/-- DivUp. -/
theorem divUp_big (x y : Int) (va vb : Value) (w : World) (ha : BigAt w va x) (hb : BigAt w vb y) (hx : (limbs x.natAbs).length ≤ 1000000) (hy : 0 < y) :
    Calls Tryz.prog 60 #[va, vb] w fun e w' => ∃ r, e = .returned (.tuple #[r, .int .i64 0]) ∧ BigAt w' r (divUpI x y) ∧ Below w.heap.size w w' := by
  have HA : Hid (BigAt w va x) := ha
  have HB : Hid (BigAt w vb y) := hb
  rcases ha with ⟨hfx, rfl⟩ | ⟨_, p, s, rfl, _⟩
  · rcases hb with ⟨hfy, rfl⟩ | ⟨_, p, s, rfl, _⟩
    · refine (divUp_ints x y w hfx hfy hy).mono ?_
      rintro e w' ⟨rfl, hb'⟩
      refine ⟨_, rfl, .inl ⟨?_, rfl⟩, hb'⟩
      have h1 := divUpI_bound (a := x) hy
      unfold Fits at *
      rcases Int.le_total 0 x with h | h
      · have := h1.1 h; omega
      · have := h1.2 h; omega
    · exact divUp_wideB x y _ _ _ w HA HB hx hy
  · obtain ⟨n2, q2, rfl⟩ := hb.shape
    exact divUp_wideA x y _ _ _ _ w HA HB hx hy

end Go.Proofs.YtjffbndiecjkjaaGreatDoor
