/-
  BigRounds: the walk.
-/
import Derived.Test.YtangepgiamhenaaDoorKnown
import Derived.Test.YtangepgiamhenaaDoorSubBig
import Derived.Test.YtangepgiamhenaaDoorDivUp
import Derived.Test.YtangepgiamhenaaDoorParsesWalk
namespace Go.Proofs.YtangepgiamhenaaDoor
open Go.RowKit
open Bn (limbs)

/-- What stays of two numbers. -/
def Duo (W : World) (NA NB : Nat) (n1 n2 : Int) (q1 q2 : Option Addr) (x y : Int) (w' : World) : Prop :=
  w'.cell? ⟨NA, 0, none⟩ = some (.int .i64 n1) ∧ w'.cell? ⟨NA, 1, none⟩ = some (.pointer q1) ∧ w'.cell? ⟨NB, 0, none⟩ = some (.int .i64 n2) ∧ w'.cell? ⟨NB, 1, none⟩ = some (.pointer q2) ∧ NA < w'.heap.size ∧ NB < w'.heap.size ∧ Tab w' ∧ BigAt w' (.agg #[.int .i64 n1, .pointer q1]) x ∧ BigAt w' (.agg #[.int .i64 n2, .pointer q2]) y ∧ Below W.heap.size W w'
theorem Duo.next {W : World} {NA NB : Nat} {n1 n2 : Int} {q1 q2 : Option Addr} {x y : Int} {w1 w2 : World} (h : Duo W NA NB n1 n2 q1 q2 x y w1) (hb : Below w1.heap.size w1 w2) : Duo W NA NB n1 n2 q1 q2 x y w2 := by
  obtain ⟨h1, h2, h3, h4, h5, h6, h7, h8, h9, h10⟩ := h
  exact ⟨(hb.cell (p := ⟨NA, 0, none⟩) h5).trans h1, (hb.cell (p := ⟨NA, 1, none⟩) h5).trans h2, (hb.cell (p := ⟨NB, 0, none⟩) h6).trans h3, (hb.cell (p := ⟨NB, 1, none⟩) h6).trans h4, Nat.lt_of_lt_of_le h5 hb.size, Nat.lt_of_lt_of_le h6 hb.size, h7.below hb h7.2, h8.below hb, h9.below hb, h10.trans (hb.mono h10.size)⟩
theorem Duo.tab {W : World} {NA NB : Nat} {n1 n2 : Int} {q1 q2 : Option Addr} {x y : Int} {w1 : World} (h : Duo W NA NB n1 n2 q1 q2 x y w1) : Tab w1 := h.2.2.2.2.2.2.1
theorem Duo.a {W : World} {NA NB : Nat} {n1 n2 : Int} {q1 q2 : Option Addr} {x y : Int} {w1 : World} (h : Duo W NA NB n1 n2 q1 q2 x y w1) : BigAt w1 (.agg #[.int .i64 n1, .pointer q1]) x := h.2.2.2.2.2.2.2.1
theorem Duo.b {W : World} {NA NB : Nat} {n1 n2 : Int} {q1 q2 : Option Addr} {x y : Int} {w1 : World} (h : Duo W NA NB n1 n2 q1 q2 x y w1) : BigAt w1 (.agg #[.int .i64 n2, .pointer q2]) y := h.2.2.2.2.2.2.2.2.1
theorem Duo.rest {W : World} {NA NB : Nat} {n1 n2 : Int} {q1 q2 : Option Addr} {x y : Int} {w1 : World} (h : Duo W NA NB n1 n2 q1 q2 x y w1) : Below W.heap.size W w1 := h.2.2.2.2.2.2.2.2.2
/-- What stays of three numbers. -/
def Tri (W : World) (NA NB NC : Nat) (n1 n2 n3 : Int) (q1 q2 q3 : Option Addr) (x y z : Int) (w' : World) : Prop :=
  w'.cell? ⟨NA, 0, none⟩ = some (.int .i64 n1) ∧ w'.cell? ⟨NA, 1, none⟩ = some (.pointer q1) ∧ w'.cell? ⟨NB, 0, none⟩ = some (.int .i64 n2) ∧ w'.cell? ⟨NB, 1, none⟩ = some (.pointer q2) ∧ w'.cell? ⟨NC, 0, none⟩ = some (.int .i64 n3) ∧ w'.cell? ⟨NC, 1, none⟩ = some (.pointer q3) ∧ NA < w'.heap.size ∧ NB < w'.heap.size ∧ NC < w'.heap.size ∧ Tab w' ∧ BigAt w' (.agg #[.int .i64 n1, .pointer q1]) x ∧ BigAt w' (.agg #[.int .i64 n2, .pointer q2]) y ∧ BigAt w' (.agg #[.int .i64 n3, .pointer q3]) z ∧ Below W.heap.size W w'
theorem Tri.next {W : World} {NA NB NC : Nat} {n1 n2 n3 : Int} {q1 q2 q3 : Option Addr} {x y z : Int} {w1 w2 : World} (h : Tri W NA NB NC n1 n2 n3 q1 q2 q3 x y z w1) (hb : Below w1.heap.size w1 w2) : Tri W NA NB NC n1 n2 n3 q1 q2 q3 x y z w2 := by
  obtain ⟨h1, h2, h3, h4, h5, h6, h7, h8, h9, h10, h11, h12, h13, h14⟩ := h
  exact ⟨(hb.cell (p := ⟨NA, 0, none⟩) h7).trans h1, (hb.cell (p := ⟨NA, 1, none⟩) h7).trans h2, (hb.cell (p := ⟨NB, 0, none⟩) h8).trans h3, (hb.cell (p := ⟨NB, 1, none⟩) h8).trans h4, (hb.cell (p := ⟨NC, 0, none⟩) h9).trans h5, (hb.cell (p := ⟨NC, 1, none⟩) h9).trans h6, Nat.lt_of_lt_of_le h7 hb.size, Nat.lt_of_lt_of_le h8 hb.size, Nat.lt_of_lt_of_le h9 hb.size, h10.below hb h10.2, h11.below hb, h12.below hb, h13.below hb, h14.trans (hb.mono h14.size)⟩
theorem Tri.tab {W : World} {NA NB NC : Nat} {n1 n2 n3 : Int} {q1 q2 q3 : Option Addr} {x y z : Int} {w1 : World} (h : Tri W NA NB NC n1 n2 n3 q1 q2 q3 x y z w1) : Tab w1 := h.2.2.2.2.2.2.2.2.2.1
theorem Tri.a {W : World} {NA NB NC : Nat} {n1 n2 n3 : Int} {q1 q2 q3 : Option Addr} {x y z : Int} {w1 : World} (h : Tri W NA NB NC n1 n2 n3 q1 q2 q3 x y z w1) : BigAt w1 (.agg #[.int .i64 n1, .pointer q1]) x := h.2.2.2.2.2.2.2.2.2.2.1
theorem Tri.b {W : World} {NA NB NC : Nat} {n1 n2 n3 : Int} {q1 q2 q3 : Option Addr} {x y z : Int} {w1 : World} (h : Tri W NA NB NC n1 n2 n3 q1 q2 q3 x y z w1) : BigAt w1 (.agg #[.int .i64 n2, .pointer q2]) y := h.2.2.2.2.2.2.2.2.2.2.2.1
theorem Tri.c {W : World} {NA NB NC : Nat} {n1 n2 n3 : Int} {q1 q2 q3 : Option Addr} {x y z : Int} {w1 : World} (h : Tri W NA NB NC n1 n2 n3 q1 q2 q3 x y z w1) : BigAt w1 (.agg #[.int .i64 n3, .pointer q3]) z := h.2.2.2.2.2.2.2.2.2.2.2.2.1
theorem Tri.rest {W : World} {NA NB NC : Nat} {n1 n2 n3 : Int} {q1 q2 q3 : Option Addr} {x y z : Int} {w1 : World} (h : Tri W NA NB NC n1 n2 n3 q1 q2 q3 x y z w1) : Below W.heap.size W w1 := h.2.2.2.2.2.2.2.2.2.2.2.2.2

theorem big1 (w : World) : BigAt w (.agg #[.int .i64 1, .pointer none]) 1 := .inl ⟨by unfold Fits; omega, rfl⟩
theorem len_sub' {x y : Int} {n : Nat} (hx : (limbs x.natAbs).length ≤ n) (hy : (limbs y.natAbs).length ≤ n) : (limbs (x - y).natAbs).length ≤ n + 1 := by
  rw [Bn.limbs_length_le] at *
  have h1 : (x - y).natAbs ≤ x.natAbs + y.natAbs := by omega
  have h2 : 1000000000 ^ (n + 1) = 1000000000 * 1000000000 ^ n := by rw [Nat.pow_succ, Nat.mul_comm]
  omega
theorem len_mul' {x y : Int} {m n : Nat} (hx : (limbs x.natAbs).length ≤ m) (hy : (limbs y.natAbs).length ≤ n) : (limbs (x * y).natAbs).length ≤ m + n := by
  rw [Bn.limbs_length_le] at *
  rw [Int.natAbs_mul, Nat.pow_add]
  exact Nat.mul_lt_mul'' hx hy

set_option maxRecDepth 100000 in
set_option maxHeartbeats 4000000 in
/-- BigRounds, of two numbers. -/
theorem bigRounds_walk (s t tx : ByteArray) (x y e1 e2 : Int) (w : World) (ht : Tab w) (hs : s.size ≤ 3000) (htt : t.size ≤ 3000)
    (HP1 : Hid (∀ w, Calls Tryd.prog 9 #[.string s] w fun e w' => ∃ v, e = .returned (.tuple #[v, .int .i64 e1]) ∧ BigAt w' v x ∧ Below w.heap.size w w'))
    (HP2 : Hid (∀ w, Calls Tryd.prog 9 #[.string t] w fun e w' => ∃ v, e = .returned (.tuple #[v, .int .i64 e2]) ∧ BigAt w' v y ∧ Below w.heap.size w w'))
    (HP3 : Hid (∀ w, Calls Tryd.prog 9 #[.string tx] w fun e w' => ∃ v, e = .returned (.tuple #[v, .int .i64 0]) ∧ BigAt w' v x ∧ Below w.heap.size w w'))
    (HTx : Hid (∀ w v, BigAt w v x → Tab w → Calls Tryd.prog 16 #[v] w fun e w' => e = .returned (.string tx) ∧ Below w.heap.size w w'))
    (lx : (limbs x.natAbs).length ≤ 3000) (ly : (limbs y.natAbs).length ≤ 3000) (he : e1 = 0 ∧ tx = s ∨ e1 = 10 ∧ x = 0) :
    Calls Tryd.prog 8 #[.string s, .string t] w fun e w' => e = .returned (.bool true) ∧ Below w.heap.size w w' := by
  have hsI : ¬ (3000 : Int) < (s.size : Int) := by omega
  have htI : ¬ (3000 : Int) < (t.size : Int) := by omega
  clear hs htt
  go_enter Tryd.func8, Tryd.ntmps8
  go_wp2_with fail
  refine (known_any _ ht).mono ?_
  rintro e w0 ⟨rfl, hb0⟩
  go_wp2_with fail
  refine (HP1.out _).mono ?_
  rintro e w1 ⟨va, rfl, hA, hb1⟩
  obtain ⟨n1, q1, rfl⟩ := hA.shape
  go_wp2_with fail
  generalize hW1 : w1.alloc (.cells #[.int .i64 n1, .pointer q1] 24) = W1
  obtain ⟨bA, hB1, hs1⟩ := new_box w1 n1 q1 hW1
  clear hW1
  refine (HP2.out _).mono ?_
  rintro e w2 ⟨vb, rfl, hB, hb2⟩
  obtain ⟨n2, q2, rfl⟩ := hB.shape
  obtain ⟨W, hW2⟩ : ∃ W, w2.alloc (.cells #[.int .i64 n2, .pointer q2] 24) = W := ⟨_, rfl⟩
  obtain ⟨bB, hB2, hs2⟩ := new_box w2 n2 q2 hW2
  have k1 : Below W1.heap.size W1 W := hb2.trans (hB2.mono hb2.size)
  have kw : Below w.heap.size w W := (hb0.trans (hb1.mono hb0.size)).trans ((hB1.mono (Nat.le_trans hb0.size hb1.size)).trans (k1.mono (Nat.le_trans (Nat.le_trans hb0.size hb1.size) hB1.size)))
  have hsA : w1.heap.size < W.heap.size := by have := k1.size; omega
  have hsB : w2.heap.size < W.heap.size := by omega
  obtain ⟨a0, a1, _, _⟩ := box_facts ((k1.block w1.heap.size (by omega)).trans bA)
  obtain ⟨b0, b1, _, _⟩ := box_facts bB
  have hS : Duo W w1.heap.size w2.heap.size n1 n2 q1 q2 x y W := ⟨a0, a1, b0, b1, hsA, hsB, ht.below kw ht.2, (hA.below hB1).below k1, hB.below hB2, Below.refl _ _⟩
  have KW : Hid (Below w.heap.size w W) := kw
  clear hb0 hb1 hb2 hB1 hB2 k1 kw bA bB hA hB ht hs1 hs2 hsA hsB
  have HF : Hid (Duo W w1.heap.size w2.heap.size n1 n2 q1 q2 x y W) := hS
  rcases he with ⟨rfl, rfl⟩ | ⟨rfl, hx0⟩
  · go_wp2_with (first
    | (go_at_call 11; go_in)
    | (go_at_call 16; refine calls_at (HTx.out _ _ (Duo.a hS) (Duo.tab hS)) (by with_reducible rfl) (by with_reducible rfl) ?_; rintro e w' ⟨rfl, hb⟩; have hS := Duo.next hS hb; obtain ⟨a0, a1, b0, b1, _⟩ := id hS)
    | (go_at_call 17; refine calls_at (sign_big _ _ _ (Duo.a hS)) (by with_reducible rfl) (by with_reducible rfl) ?_; rintro e w' ⟨rfl, hb⟩; rw [E0.out]; have hS := Duo.next hS hb; obtain ⟨a0, a1, b0, b1, _⟩ := id hS)
    | (go_at_call 9; refine calls_at (HP3.out _) (by with_reducible rfl) (by with_reducible rfl) ?_; rintro e w' ⟨vc, rfl, hC, hb⟩; obtain ⟨n3, q3, hvc⟩ := hC.shape; subst hvc; have hS := Duo.next hS hb; obtain ⟨a0, a1, b0, b1, _⟩ := id hS))
    obtain ⟨W3, hW3⟩ : ∃ W3, w'.alloc (.cells #[.int .i64 n3, .pointer q3] 24) = W3 := ⟨_, rfl⟩
    obtain ⟨_, hB3, _⟩ := new_box w' n3 q3 hW3
    rw [hW3]
    have hS3 := Duo.next hS hB3
    have hC3 := hC.below hB3
    clear hW3 hS hB3 hC a0 a1 b0 b1
    refine (same_big x _ _ _ hC3 (Duo.a hS3) (Duo.tab hS3) (by omega)).mono ?_
    rintro e w4 ⟨rfl, hb4⟩
    have hS := Duo.next hS3 hb4
    obtain ⟨a0, a1, b0, b1, _⟩ := id hS
    clear hS3 hC3 hb4
    by_cases hy : y < 1
    · have hsy : ¬ 0 < y.sign := by
        rcases Int.lt_trichotomy y 0 with h | h | h
        · rw [Int.sign_eq_neg_one_of_neg h]; decide
        · rw [h]; decide
        · omega
      obtain ⟨sy, hsye⟩ : ∃ sy, y.sign = sy := ⟨_, rfl⟩
      rw [hsye] at hsy
      have Esy : Hid (y.sign = sy) := hsye
      clear hsye
      go_wp2_with fail
      refine (divUp_none x y _ _ _ (Duo.a hS) (Duo.b hS) hy).mono ?_
      rintro e w5 ⟨rfl, hb5⟩
      obtain ⟨W5, hW5⟩ : ∃ W5, w5.alloc (.cells #[.int .i64 0, .pointer none] 24) = W5 := ⟨_, rfl⟩
      obtain ⟨bC, hB5, hs5⟩ := new_box w5 0 none hW5
      obtain ⟨c0, c1, _, _⟩ := box_facts bC
      obtain ⟨a0, a1, b0, b1, g1, g2, g3, g4, g5, g6⟩ := (Duo.next hS hb5).next hB5
      have hT : Tri W w1.heap.size w2.heap.size w5.heap.size n1 n2 (0) q1 q2 none x y (0) W5 := ⟨a0, a1, b0, b1, c0, c1, g1, g2, by omega, g3, g4, g5, .inl ⟨by unfold Fits; omega, rfl⟩, g6⟩
      have hT' : Tri W w1.heap.size w2.heap.size w5.heap.size n1 n2 (0) q1 q2 none x y (0) W5.drew := hT.next (Below.refl _ _).drew
      have HT5 : Hid (Tri W w1.heap.size w2.heap.size w5.heap.size n1 n2 (0) q1 q2 none x y (0) W5) := hT
      clear hT g1 g2 g3 g4 g5 g6 hS hb5 hB5 bC hs5 a0 a1 b0 b1 c0 c1
      have HW5 : Hid (w5.alloc (.cells #[.int .i64 0, .pointer none] 24) = W5) := hW5
      clear hW5
      go_wp2_with fail
      rw [HW5.out]
      go_region_held3 (fun w' => w'.cell? ⟨w1.heap.size, 0, none⟩ = some (.int .i64 n1) ∧ w'.cell? ⟨w1.heap.size, 1, none⟩ = some (.pointer q1) ∧ w'.cell? ⟨w2.heap.size, 0, none⟩ = some (.int .i64 n2) ∧ w'.cell? ⟨w2.heap.size, 1, none⟩ = some (.pointer q2) ∧ w'.cell? ⟨w5.heap.size, 0, none⟩ = some (.int .i64 (0)) ∧ w'.cell? ⟨w5.heap.size, 1, none⟩ = some (.pointer none) ∧ w1.heap.size < w'.heap.size ∧ w2.heap.size < w'.heap.size ∧ w5.heap.size < w'.heap.size ∧ Tab w' ∧ BigAt w' (.agg #[.int .i64 n1, .pointer q1]) x ∧ BigAt w' (.agg #[.int .i64 n2, .pointer q2]) y ∧ BigAt w' (.agg #[.int .i64 (0), .pointer none]) (0) ∧ Below W.heap.size W w')
        (first | exact hT' | (refine Tri.next (by assumption) (by assumption)))
        (first
          | (go_at_call 11; go_in)
          | (go_at_call 17; refine calls_at (sign_big _ _ _ (Tri.b (by assumption))) (by with_reducible rfl) (by with_reducible rfl) ?_; rintro e w' ⟨rfl, hb⟩; rw [Esy.out]))
      rename_i hHeld
      have hTf : Tri W w1.heap.size w2.heap.size w5.heap.size n1 n2 0 q1 q2 none x y 0 w' := hHeld
      obtain ⟨_, _, _, _, c0, c1, _⟩ := id hTf
      clear hHeld hT'
      go_wp2_with (first
        | (go_at_call 11; go_in)
        | (go_at_call 17; refine calls_at (sign_big _ _ _ (Tri.c hTf)) (by with_reducible rfl) (by with_reducible rfl) ?_; rintro e w6 ⟨rfl, hb6⟩; have hT6 := Tri.next hTf hb6))
      go_ret
      exact ⟨rfl, KW.out.trans ((Tri.rest hT6).mono KW.out.size)⟩
    · have hy' : 0 < y := by omega
      have Esy : Hid (y.sign = 1) := Int.sign_eq_one_of_pos hy'
      go_wp2_with fail
      refine (divUp_big x y _ _ _ (Duo.a hS) (Duo.b hS) (by omega) hy').mono ?_
      rintro e w5 ⟨vq, rfl, hQ, hb5⟩
      obtain ⟨n4, q4, rfl⟩ := hQ.shape
      obtain ⟨z, hz⟩ : ∃ z, divUpI x y = z := ⟨_, rfl⟩
      have HLo : Hid (y * (z - 1) < x) := by rw [← hz]; exact divUpI_lo x hy'
      have HHi : Hid (x ≤ y * z) := by rw [← hz]; exact divUpI_hi x hy'
      have HZl : Hid ((limbs z.natAbs).length ≤ 3000) := by
        rw [← hz]
        refine limbs_mono ?_ lx
        have h1 := divUpI_bound (a := x) hy'
        rcases Int.le_total 0 x with h | h
        · have := h1.1 h; omega
        · have := h1.2 h; omega
      rw [hz] at hQ
      clear hz
      obtain ⟨W5, hW5⟩ : ∃ W5, w5.alloc (.cells #[.int .i64 n4, .pointer q4] 24) = W5 := ⟨_, rfl⟩
      obtain ⟨bC, hB5, hs5⟩ := new_box w5 n4 q4 hW5
      obtain ⟨c0, c1, _, _⟩ := box_facts bC
      obtain ⟨a0, a1, b0, b1, g1, g2, g3, g4, g5, g6⟩ := (Duo.next hS hb5).next hB5
      have hT : Tri W w1.heap.size w2.heap.size w5.heap.size n1 n2 (n4) q1 q2 q4 x y (z) W5 := ⟨a0, a1, b0, b1, c0, c1, g1, g2, by omega, g3, g4, g5, hQ.below hB5, g6⟩
      have hT' : Tri W w1.heap.size w2.heap.size w5.heap.size n1 n2 (n4) q1 q2 q4 x y (z) W5.drew := hT.next (Below.refl _ _).drew
      have HT5 : Hid (Tri W w1.heap.size w2.heap.size w5.heap.size n1 n2 (n4) q1 q2 q4 x y (z) W5) := hT
      clear hT g1 g2 g3 g4 g5 g6 hS hb5 hB5 bC hs5 a0 a1 b0 b1 c0 c1
      clear hQ
      go_wp2_with fail
      go_region_held3 (fun w' => w'.cell? ⟨w1.heap.size, 0, none⟩ = some (.int .i64 n1) ∧ w'.cell? ⟨w1.heap.size, 1, none⟩ = some (.pointer q1) ∧ w'.cell? ⟨w2.heap.size, 0, none⟩ = some (.int .i64 n2) ∧ w'.cell? ⟨w2.heap.size, 1, none⟩ = some (.pointer q2) ∧ w'.cell? ⟨w5.heap.size, 0, none⟩ = some (.int .i64 (n4)) ∧ w'.cell? ⟨w5.heap.size, 1, none⟩ = some (.pointer q4) ∧ w1.heap.size < w'.heap.size ∧ w2.heap.size < w'.heap.size ∧ w5.heap.size < w'.heap.size ∧ Tab w' ∧ BigAt w' (.agg #[.int .i64 n1, .pointer q1]) x ∧ BigAt w' (.agg #[.int .i64 n2, .pointer q2]) y ∧ BigAt w' (.agg #[.int .i64 (n4), .pointer q4]) (z) ∧ Below W.heap.size W w')
        (first | exact hT' | (refine Tri.next (by assumption) (by assumption)))
        (first
          | (go_at_call 11; go_in)
          | (go_at_call 17; refine calls_at (sign_big _ _ _ (Tri.b (by assumption))) (by with_reducible rfl) (by with_reducible rfl) ?_; rintro e w' ⟨rfl, hb⟩; rw [Esy.out]))
      rename_i hHeld
      have hTf : Tri W w1.heap.size w2.heap.size w5.heap.size n1 n2 n4 q1 q2 q4 x y z w'.drew := Tri.next hHeld (Below.refl _ _).drew
      clear hHeld hT'
      have l1 : (limbs (1 : Int).natAbs).length ≤ 1000000 := one_len
      have lx' : (limbs x.natAbs).length ≤ 1000000 := by omega
      have ly' : (limbs y.natAbs).length ≤ 1000000 := by omega
      have lz' : (limbs z.natAbs).length ≤ 1000000 := by have := HZl.out; omega
      have lz1 : (limbs (z - 1).natAbs).length ≤ 1000000 := by have := len_sub' HZl.out (show (limbs (1 : Int).natAbs).length ≤ 3000 by decide); omega
      have lyz : (limbs (y * (z - 1)).natAbs).length ≤ 1000000 := by have := len_mul' ly (len_sub' HZl.out (show (limbs (1 : Int).natAbs).length ≤ 3000 by decide)); omega
      obtain ⟨cz, hcz⟩ : ∃ cz, cmpI x (y * z) = cz := ⟨_, rfl⟩
      have hcz0 : cz ≤ 0 := by
        rw [← hcz]
        rcases Int.lt_or_eq_of_le HHi.out with h | h
        · rw [cmpI_lt h]; decide
        · rw [cmpI_eq (by omega) (by omega)]; decide
      have Ed : Hid (cmpI x (y * z) = cz) := hcz
      have Ec : Hid (cmpI (y * (z - 1)) x = -1) := cmpI_lt HLo.out
      clear hcz hy hy'
      go_wp2_with (go_at_call 11; go_in)
      go_region_held3 (fun w' => w'.cell? ⟨w1.heap.size, 0, none⟩ = some (.int .i64 n1) ∧ w'.cell? ⟨w1.heap.size, 1, none⟩ = some (.pointer q1) ∧ w'.cell? ⟨w2.heap.size, 0, none⟩ = some (.int .i64 n2) ∧ w'.cell? ⟨w2.heap.size, 1, none⟩ = some (.pointer q2) ∧ w'.cell? ⟨w5.heap.size, 0, none⟩ = some (.int .i64 (n4)) ∧ w'.cell? ⟨w5.heap.size, 1, none⟩ = some (.pointer q4) ∧ w1.heap.size < w'.heap.size ∧ w2.heap.size < w'.heap.size ∧ w5.heap.size < w'.heap.size ∧ Tab w' ∧ BigAt w' (.agg #[.int .i64 n1, .pointer q1]) x ∧ BigAt w' (.agg #[.int .i64 n2, .pointer q2]) y ∧ BigAt w' (.agg #[.int .i64 (n4), .pointer q4]) (z) ∧ Below W.heap.size W w')
        (first | exact hTf | (refine Tri.next (by assumption) (by assumption)))
        (first
        | (go_at_call 13; refine calls_at (of_any _ _) (by with_reducible rfl) (by with_reducible rfl) ?_; rintro e w' ⟨rfl, hb⟩)
        | (go_at_call 25; refine calls_at (sub_big ?_ ?_ _ _ _ ?_ ?_ ?_ ?_) (by with_reducible rfl) (by with_reducible rfl) ?_; rotate_left 2; (first | exact Tri.a (by assumption) | exact Tri.b (by assumption) | exact Tri.c (by assumption) | with_reducible assumption | (refine BigAt.below ?_ (by assumption); with_reducible assumption) | (refine BigAt.below ?_ (by assumption); refine BigAt.below ?_ (by assumption); with_reducible assumption) | exact big1 _); (first | exact Tri.a (by assumption) | exact Tri.b (by assumption) | exact Tri.c (by assumption) | with_reducible assumption | (refine BigAt.below ?_ (by assumption); with_reducible assumption) | (refine BigAt.below ?_ (by assumption); refine BigAt.below ?_ (by assumption); with_reducible assumption) | exact big1 _); (with_reducible assumption); (with_reducible assumption); rintro e w' ⟨r, rfl, hr, hb⟩; obtain ⟨yr, qr, hrs⟩ := hr.shape; subst hrs)
        | (go_at_call 27; refine calls_at (mul_big ?_ ?_ _ _ _ ?_ ?_ ?_ ?_) (by with_reducible rfl) (by with_reducible rfl) ?_; rotate_left 2; (first | exact Tri.a (by assumption) | exact Tri.b (by assumption) | exact Tri.c (by assumption) | with_reducible assumption | (refine BigAt.below ?_ (by assumption); with_reducible assumption) | (refine BigAt.below ?_ (by assumption); refine BigAt.below ?_ (by assumption); with_reducible assumption) | exact big1 _); (first | exact Tri.a (by assumption) | exact Tri.b (by assumption) | exact Tri.c (by assumption) | with_reducible assumption | (refine BigAt.below ?_ (by assumption); with_reducible assumption) | (refine BigAt.below ?_ (by assumption); refine BigAt.below ?_ (by assumption); with_reducible assumption) | exact big1 _); (with_reducible assumption); (with_reducible assumption); rintro e w' ⟨r, rfl, hr, hb⟩; obtain ⟨yr, qr, hrs⟩ := hr.shape; subst hrs)
        | (go_at_call 18; refine calls_at (cmp_big ?_ ?_ _ _ _ ?_ ?_ ?_) (by with_reducible rfl) (by with_reducible rfl) ?_; rotate_left 2; (first | exact Tri.a (by assumption) | exact Tri.b (by assumption) | exact Tri.c (by assumption) | with_reducible assumption | (refine BigAt.below ?_ (by assumption); with_reducible assumption) | (refine BigAt.below ?_ (by assumption); refine BigAt.below ?_ (by assumption); with_reducible assumption) | exact big1 _); (first | exact Tri.a (by assumption) | exact Tri.b (by assumption) | exact Tri.c (by assumption) | with_reducible assumption | (refine BigAt.below ?_ (by assumption); with_reducible assumption) | (refine BigAt.below ?_ (by assumption); refine BigAt.below ?_ (by assumption); with_reducible assumption) | exact big1 _); (with_reducible assumption); rintro e w' ⟨rfl, hb⟩; first | rw [Ec.out] | rw [Ed.out]))
      rename_i hHeld
      have hfin : Below w.heap.size w w' := KW.out.trans ((Tri.rest hHeld).mono KW.out.size)
      go_wp2
      go_ret
      exact ⟨rfl, hfin⟩
  · have E0 : Hid (x.sign = 0) := by show _ = _; rw [hx0]; rfl
    clear hx0
    go_wp2_with (first
    | (go_at_call 11; go_in)
    | (go_at_call 16; refine calls_at (HTx.out _ _ (Duo.a hS) (Duo.tab hS)) (by with_reducible rfl) (by with_reducible rfl) ?_; rintro e w' ⟨rfl, hb⟩; have hS := Duo.next hS hb; obtain ⟨a0, a1, b0, b1, _⟩ := id hS)
    | (go_at_call 17; refine calls_at (sign_big _ _ _ (Duo.a hS)) (by with_reducible rfl) (by with_reducible rfl) ?_; rintro e w' ⟨rfl, hb⟩; rw [E0.out]; have hS := Duo.next hS hb; obtain ⟨a0, a1, b0, b1, _⟩ := id hS)
    | (go_at_call 9; refine calls_at (HP3.out _) (by with_reducible rfl) (by with_reducible rfl) ?_; rintro e w' ⟨vc, rfl, hC, hb⟩; obtain ⟨n3, q3, hvc⟩ := hC.shape; subst hvc; have hS := Duo.next hS hb; obtain ⟨a0, a1, b0, b1, _⟩ := id hS))
    obtain ⟨W3, hW3⟩ : ∃ W3, w'.alloc (.cells #[.int .i64 n3, .pointer q3] 24) = W3 := ⟨_, rfl⟩
    obtain ⟨_, hB3, _⟩ := new_box w' n3 q3 hW3
    rw [hW3]
    have hS3 := Duo.next hS hB3
    have hC3 := hC.below hB3
    clear hW3 hS hB3 hC a0 a1 b0 b1
    refine (same_big x _ _ _ hC3 (Duo.a hS3) (Duo.tab hS3) (by omega)).mono ?_
    rintro e w4 ⟨rfl, hb4⟩
    have hS := Duo.next hS3 hb4
    obtain ⟨a0, a1, b0, b1, _⟩ := id hS
    clear hS3 hC3 hb4
    by_cases hy : y < 1
    · have hsy : ¬ 0 < y.sign := by
        rcases Int.lt_trichotomy y 0 with h | h | h
        · rw [Int.sign_eq_neg_one_of_neg h]; decide
        · rw [h]; decide
        · omega
      obtain ⟨sy, hsye⟩ : ∃ sy, y.sign = sy := ⟨_, rfl⟩
      rw [hsye] at hsy
      have Esy : Hid (y.sign = sy) := hsye
      clear hsye
      go_wp2_with fail
      refine (divUp_none x y _ _ _ (Duo.a hS) (Duo.b hS) hy).mono ?_
      rintro e w5 ⟨rfl, hb5⟩
      obtain ⟨W5, hW5⟩ : ∃ W5, w5.alloc (.cells #[.int .i64 0, .pointer none] 24) = W5 := ⟨_, rfl⟩
      obtain ⟨bC, hB5, hs5⟩ := new_box w5 0 none hW5
      obtain ⟨c0, c1, _, _⟩ := box_facts bC
      obtain ⟨a0, a1, b0, b1, g1, g2, g3, g4, g5, g6⟩ := (Duo.next hS hb5).next hB5
      have hT : Tri W w1.heap.size w2.heap.size w5.heap.size n1 n2 (0) q1 q2 none x y (0) W5 := ⟨a0, a1, b0, b1, c0, c1, g1, g2, by omega, g3, g4, g5, .inl ⟨by unfold Fits; omega, rfl⟩, g6⟩
      have hT' : Tri W w1.heap.size w2.heap.size w5.heap.size n1 n2 (0) q1 q2 none x y (0) W5.drew := hT.next (Below.refl _ _).drew
      have HT5 : Hid (Tri W w1.heap.size w2.heap.size w5.heap.size n1 n2 (0) q1 q2 none x y (0) W5) := hT
      clear hT g1 g2 g3 g4 g5 g6 hS hb5 hB5 bC hs5 a0 a1 b0 b1 c0 c1
      have HW5 : Hid (w5.alloc (.cells #[.int .i64 0, .pointer none] 24) = W5) := hW5
      clear hW5
      go_wp2_with fail
      rw [HW5.out]
      go_region_held3 (fun w' => w'.cell? ⟨w1.heap.size, 0, none⟩ = some (.int .i64 n1) ∧ w'.cell? ⟨w1.heap.size, 1, none⟩ = some (.pointer q1) ∧ w'.cell? ⟨w2.heap.size, 0, none⟩ = some (.int .i64 n2) ∧ w'.cell? ⟨w2.heap.size, 1, none⟩ = some (.pointer q2) ∧ w'.cell? ⟨w5.heap.size, 0, none⟩ = some (.int .i64 (0)) ∧ w'.cell? ⟨w5.heap.size, 1, none⟩ = some (.pointer none) ∧ w1.heap.size < w'.heap.size ∧ w2.heap.size < w'.heap.size ∧ w5.heap.size < w'.heap.size ∧ Tab w' ∧ BigAt w' (.agg #[.int .i64 n1, .pointer q1]) x ∧ BigAt w' (.agg #[.int .i64 n2, .pointer q2]) y ∧ BigAt w' (.agg #[.int .i64 (0), .pointer none]) (0) ∧ Below W.heap.size W w')
        (first | exact hT' | (refine Tri.next (by assumption) (by assumption)))
        (first
          | (go_at_call 11; go_in)
          | (go_at_call 17; refine calls_at (sign_big _ _ _ (Tri.b (by assumption))) (by with_reducible rfl) (by with_reducible rfl) ?_; rintro e w' ⟨rfl, hb⟩; rw [Esy.out]))
      rename_i hHeld
      have hTf : Tri W w1.heap.size w2.heap.size w5.heap.size n1 n2 0 q1 q2 none x y 0 w' := hHeld
      obtain ⟨_, _, _, _, c0, c1, _⟩ := id hTf
      clear hHeld hT'
      go_wp2_with (first
        | (go_at_call 11; go_in)
        | (go_at_call 17; refine calls_at (sign_big _ _ _ (Tri.c hTf)) (by with_reducible rfl) (by with_reducible rfl) ?_; rintro e w6 ⟨rfl, hb6⟩; have hT6 := Tri.next hTf hb6))
      go_ret
      exact ⟨rfl, KW.out.trans ((Tri.rest hT6).mono KW.out.size)⟩
    · have hy' : 0 < y := by omega
      have Esy : Hid (y.sign = 1) := Int.sign_eq_one_of_pos hy'
      go_wp2_with fail
      refine (divUp_big x y _ _ _ (Duo.a hS) (Duo.b hS) (by omega) hy').mono ?_
      rintro e w5 ⟨vq, rfl, hQ, hb5⟩
      obtain ⟨n4, q4, rfl⟩ := hQ.shape
      obtain ⟨z, hz⟩ : ∃ z, divUpI x y = z := ⟨_, rfl⟩
      have HLo : Hid (y * (z - 1) < x) := by rw [← hz]; exact divUpI_lo x hy'
      have HHi : Hid (x ≤ y * z) := by rw [← hz]; exact divUpI_hi x hy'
      have HZl : Hid ((limbs z.natAbs).length ≤ 3000) := by
        rw [← hz]
        refine limbs_mono ?_ lx
        have h1 := divUpI_bound (a := x) hy'
        rcases Int.le_total 0 x with h | h
        · have := h1.1 h; omega
        · have := h1.2 h; omega
      rw [hz] at hQ
      clear hz
      obtain ⟨W5, hW5⟩ : ∃ W5, w5.alloc (.cells #[.int .i64 n4, .pointer q4] 24) = W5 := ⟨_, rfl⟩
      obtain ⟨bC, hB5, hs5⟩ := new_box w5 n4 q4 hW5
      obtain ⟨c0, c1, _, _⟩ := box_facts bC
      obtain ⟨a0, a1, b0, b1, g1, g2, g3, g4, g5, g6⟩ := (Duo.next hS hb5).next hB5
      have hT : Tri W w1.heap.size w2.heap.size w5.heap.size n1 n2 (n4) q1 q2 q4 x y (z) W5 := ⟨a0, a1, b0, b1, c0, c1, g1, g2, by omega, g3, g4, g5, hQ.below hB5, g6⟩
      have hT' : Tri W w1.heap.size w2.heap.size w5.heap.size n1 n2 (n4) q1 q2 q4 x y (z) W5.drew := hT.next (Below.refl _ _).drew
      have HT5 : Hid (Tri W w1.heap.size w2.heap.size w5.heap.size n1 n2 (n4) q1 q2 q4 x y (z) W5) := hT
      clear hT g1 g2 g3 g4 g5 g6 hS hb5 hB5 bC hs5 a0 a1 b0 b1 c0 c1
      clear hQ
      go_wp2_with fail
      go_region_held3 (fun w' => w'.cell? ⟨w1.heap.size, 0, none⟩ = some (.int .i64 n1) ∧ w'.cell? ⟨w1.heap.size, 1, none⟩ = some (.pointer q1) ∧ w'.cell? ⟨w2.heap.size, 0, none⟩ = some (.int .i64 n2) ∧ w'.cell? ⟨w2.heap.size, 1, none⟩ = some (.pointer q2) ∧ w'.cell? ⟨w5.heap.size, 0, none⟩ = some (.int .i64 (n4)) ∧ w'.cell? ⟨w5.heap.size, 1, none⟩ = some (.pointer q4) ∧ w1.heap.size < w'.heap.size ∧ w2.heap.size < w'.heap.size ∧ w5.heap.size < w'.heap.size ∧ Tab w' ∧ BigAt w' (.agg #[.int .i64 n1, .pointer q1]) x ∧ BigAt w' (.agg #[.int .i64 n2, .pointer q2]) y ∧ BigAt w' (.agg #[.int .i64 (n4), .pointer q4]) (z) ∧ Below W.heap.size W w')
        (first | exact hT' | (refine Tri.next (by assumption) (by assumption)))
        (first
          | (go_at_call 11; go_in)
          | (go_at_call 17; refine calls_at (sign_big _ _ _ (Tri.b (by assumption))) (by with_reducible rfl) (by with_reducible rfl) ?_; rintro e w' ⟨rfl, hb⟩; rw [Esy.out]))
      rename_i hHeld
      have hTf : Tri W w1.heap.size w2.heap.size w5.heap.size n1 n2 n4 q1 q2 q4 x y z w'.drew := Tri.next hHeld (Below.refl _ _).drew
      clear hHeld hT'
      have l1 : (limbs (1 : Int).natAbs).length ≤ 1000000 := one_len
      have lx' : (limbs x.natAbs).length ≤ 1000000 := by omega
      have ly' : (limbs y.natAbs).length ≤ 1000000 := by omega
      have lz' : (limbs z.natAbs).length ≤ 1000000 := by have := HZl.out; omega
      have lz1 : (limbs (z - 1).natAbs).length ≤ 1000000 := by have := len_sub' HZl.out (show (limbs (1 : Int).natAbs).length ≤ 3000 by decide); omega
      have lyz : (limbs (y * (z - 1)).natAbs).length ≤ 1000000 := by have := len_mul' ly (len_sub' HZl.out (show (limbs (1 : Int).natAbs).length ≤ 3000 by decide)); omega
      obtain ⟨cz, hcz⟩ : ∃ cz, cmpI x (y * z) = cz := ⟨_, rfl⟩
      have hcz0 : cz ≤ 0 := by
        rw [← hcz]
        rcases Int.lt_or_eq_of_le HHi.out with h | h
        · rw [cmpI_lt h]; decide
        · rw [cmpI_eq (by omega) (by omega)]; decide
      have Ed : Hid (cmpI x (y * z) = cz) := hcz
      have Ec : Hid (cmpI (y * (z - 1)) x = -1) := cmpI_lt HLo.out
      clear hcz hy hy'
      go_wp2_with (go_at_call 11; go_in)
      go_region_held3 (fun w' => w'.cell? ⟨w1.heap.size, 0, none⟩ = some (.int .i64 n1) ∧ w'.cell? ⟨w1.heap.size, 1, none⟩ = some (.pointer q1) ∧ w'.cell? ⟨w2.heap.size, 0, none⟩ = some (.int .i64 n2) ∧ w'.cell? ⟨w2.heap.size, 1, none⟩ = some (.pointer q2) ∧ w'.cell? ⟨w5.heap.size, 0, none⟩ = some (.int .i64 (n4)) ∧ w'.cell? ⟨w5.heap.size, 1, none⟩ = some (.pointer q4) ∧ w1.heap.size < w'.heap.size ∧ w2.heap.size < w'.heap.size ∧ w5.heap.size < w'.heap.size ∧ Tab w' ∧ BigAt w' (.agg #[.int .i64 n1, .pointer q1]) x ∧ BigAt w' (.agg #[.int .i64 n2, .pointer q2]) y ∧ BigAt w' (.agg #[.int .i64 (n4), .pointer q4]) (z) ∧ Below W.heap.size W w')
        (first | exact hTf | (refine Tri.next (by assumption) (by assumption)))
        (first
        | (go_at_call 13; refine calls_at (of_any _ _) (by with_reducible rfl) (by with_reducible rfl) ?_; rintro e w' ⟨rfl, hb⟩)
        | (go_at_call 25; refine calls_at (sub_big ?_ ?_ _ _ _ ?_ ?_ ?_ ?_) (by with_reducible rfl) (by with_reducible rfl) ?_; rotate_left 2; (first | exact Tri.a (by assumption) | exact Tri.b (by assumption) | exact Tri.c (by assumption) | with_reducible assumption | (refine BigAt.below ?_ (by assumption); with_reducible assumption) | (refine BigAt.below ?_ (by assumption); refine BigAt.below ?_ (by assumption); with_reducible assumption) | exact big1 _); (first | exact Tri.a (by assumption) | exact Tri.b (by assumption) | exact Tri.c (by assumption) | with_reducible assumption | (refine BigAt.below ?_ (by assumption); with_reducible assumption) | (refine BigAt.below ?_ (by assumption); refine BigAt.below ?_ (by assumption); with_reducible assumption) | exact big1 _); (with_reducible assumption); (with_reducible assumption); rintro e w' ⟨r, rfl, hr, hb⟩; obtain ⟨yr, qr, hrs⟩ := hr.shape; subst hrs)
        | (go_at_call 27; refine calls_at (mul_big ?_ ?_ _ _ _ ?_ ?_ ?_ ?_) (by with_reducible rfl) (by with_reducible rfl) ?_; rotate_left 2; (first | exact Tri.a (by assumption) | exact Tri.b (by assumption) | exact Tri.c (by assumption) | with_reducible assumption | (refine BigAt.below ?_ (by assumption); with_reducible assumption) | (refine BigAt.below ?_ (by assumption); refine BigAt.below ?_ (by assumption); with_reducible assumption) | exact big1 _); (first | exact Tri.a (by assumption) | exact Tri.b (by assumption) | exact Tri.c (by assumption) | with_reducible assumption | (refine BigAt.below ?_ (by assumption); with_reducible assumption) | (refine BigAt.below ?_ (by assumption); refine BigAt.below ?_ (by assumption); with_reducible assumption) | exact big1 _); (with_reducible assumption); (with_reducible assumption); rintro e w' ⟨r, rfl, hr, hb⟩; obtain ⟨yr, qr, hrs⟩ := hr.shape; subst hrs)
        | (go_at_call 18; refine calls_at (cmp_big ?_ ?_ _ _ _ ?_ ?_ ?_) (by with_reducible rfl) (by with_reducible rfl) ?_; rotate_left 2; (first | exact Tri.a (by assumption) | exact Tri.b (by assumption) | exact Tri.c (by assumption) | with_reducible assumption | (refine BigAt.below ?_ (by assumption); with_reducible assumption) | (refine BigAt.below ?_ (by assumption); refine BigAt.below ?_ (by assumption); with_reducible assumption) | exact big1 _); (first | exact Tri.a (by assumption) | exact Tri.b (by assumption) | exact Tri.c (by assumption) | with_reducible assumption | (refine BigAt.below ?_ (by assumption); with_reducible assumption) | (refine BigAt.below ?_ (by assumption); refine BigAt.below ?_ (by assumption); with_reducible assumption) | exact big1 _); (with_reducible assumption); rintro e w' ⟨rfl, hb⟩; first | rw [Ec.out] | rw [Ed.out]))
      rename_i hHeld
      have hfin : Below w.heap.size w w' := KW.out.trans ((Tri.rest hHeld).mono KW.out.size)
      go_wp2
      go_ret
      exact ⟨rfl, hfin⟩
end Go.Proofs.YtangepgiamhenaaDoor
