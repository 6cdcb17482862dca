/-
  Put together: Same, Known.
-/
import Derived.Test.YtangepgiamhenaaDoorCmp
import Derived.Test.YtangepgiamhenaaDoorIsBig
import Derived.Test.YtangepgiamhenaaDoorDivSmall
import Derived.Test.YtangepgiamhenaaDoorMulAll
import Derived.Test.YtangepgiamhenaaDoorThere
namespace Go.Proofs.YtangepgiamhenaaDoor
open Go.RowKit
open Bn (limbs)

theorem Two.rest {W : World} {N : Nat} {n1 n2 : Int} {q1 q2 : Option Addr} {w' : World} (h : Two W N n1 n2 q1 q2 w') : Below W.heap.size W w' := h.2.2.2.2.2

set_option maxRecDepth 100000 in
set_option maxHeartbeats 1000000 in
theorem same_big (z : Int) (va vb : Value) (w : World) (ha : BigAt w va z) (hb : BigAt w vb z) (ht : Tab w) (hlen : (limbs z.natAbs).length ≤ 1000000) :
    Calls Tryd.prog 33 #[va, vb] w fun e w' => e = .returned (.bool true) ∧ Below w.heap.size w w' := by
  have HA : Hid (BigAt w va z) := ha
  have HB : Hid (BigAt w vb z) := hb
  have HT : Hid (Tab w) := ht
  obtain ⟨n1, q1, rfl⟩ := ha.shape
  obtain ⟨n2, q2, rfl⟩ := hb.shape
  have hc0 : cmpI z z = 0 := cmpI_eq (Int.le_refl _) (Int.le_refl _)
  clear ha hb ht
  go_enter Tryd.func33, Tryd.ntmps33
  go_wp2_with fail
  generalize hW : (w.alloc (.cells #[.int .i64 n1, .pointer q1] 24)).alloc (.cells #[.int .i64 n2, .pointer q2] 24) = W
  obtain ⟨hA, hB, hBW, hsz⟩ := both_boxes w n1 n2 q1 q2 hW
  have HCm : Hid (∀ w', Below W.heap.size W w' → Calls Tryd.prog 18 #[.agg #[.int .i64 n1, .pointer q1], .agg #[.int .i64 n2, .pointer q2]] w' fun e w'' => e = .returned (.int .i64 0) ∧ Below w'.heap.size w' w'') :=
    fun w' h => by
      have := cmp_big z z _ _ w' ((HA.out.below hBW).below h) ((HB.out.below hBW).below h) hlen
      rw [hc0] at this; exact this
  have HTa : Hid (∀ w', Below W.heap.size W w' → Calls Tryd.prog 16 #[.agg #[.int .i64 n1, .pointer q1]] w' fun e w'' => e = .returned (.string ⟨(Lib.itoa z).toArray⟩) ∧ Below w'.heap.size w' w'') :=
    fun w' h => text_big z _ w' ((HA.out.below hBW).below h) hlen ((HT.out.below hBW HT.out.2).below h (HT.out.below hBW HT.out.2).2)
  have HTb : Hid (∀ w', Below W.heap.size W w' → Calls Tryd.prog 16 #[.agg #[.int .i64 n2, .pointer q2]] w' fun e w'' => e = .returned (.string ⟨(Lib.itoa z).toArray⟩) ∧ Below w'.heap.size w' w'') :=
    fun w' h => text_big z _ w' ((HB.out.below hBW).below h) hlen ((HT.out.below hBW HT.out.2).below h (HT.out.below hBW HT.out.2).2)
  obtain ⟨a0, a1, _, _⟩ := box_facts hA
  obtain ⟨b0, b1, _, _⟩ := box_facts hB
  have hS : Two W w.heap.size n1 n2 q1 q2 W.drew := Two.next ⟨a0, a1, b0, b1, by omega, Below.refl _ _⟩ (Below.refl _ _).drew
  generalize (⟨(Lib.itoa z).toArray⟩ : ByteArray) = tx at *
  clear hW hc0 HA HB HT
  go_region_held3 (fun w' => w'.cell? ⟨w.heap.size, 0, none⟩ = some (.int .i64 n1) ∧ w'.cell? ⟨w.heap.size, 1, none⟩ = some (.pointer q1) ∧ w'.cell? ⟨w.heap.size + 1, 0, none⟩ = some (.int .i64 n2) ∧ w'.cell? ⟨w.heap.size + 1, 1, none⟩ = some (.pointer q2) ∧ w.heap.size + 1 < w'.heap.size ∧ Below W.heap.size W w')
    (first | exact hS | (refine Two.next (by assumption) (by assumption)))
    (first
      | (go_at_call 18; refine calls_at (HCm.out _ (Two.rest (by assumption))) (by with_reducible rfl) (by with_reducible rfl) ?_; rintro e w' ⟨rfl, hb⟩)
      | (go_at_call 16; refine calls_at (HTa.out _ (Two.rest (by assumption))) (by with_reducible rfl) (by with_reducible rfl) ?_; rintro e w' ⟨rfl, hb⟩)
      | (go_at_call 16; refine calls_at (HTb.out _ (Two.rest (by assumption))) (by with_reducible rfl) (by with_reducible rfl) ?_; rintro e w' ⟨rfl, hb⟩))
  rename_i hHeld
  have hfin : Below w.heap.size w w' := hBW.trans (hHeld.2.2.2.2.2.mono hBW.size)
  go_wp2
  go_ret
  exact ⟨rfl, hfin⟩
end Go.Proofs.YtangepgiamhenaaDoor

namespace Go.Proofs.YtangepgiamhenaaDoor
open Go.RowKit
open Bn (limbs)

/-- A box that has just been made. -/
theorem new_box (w : World) (y : Int) (q : Option Addr) {W : World} (hW : w.alloc (.cells #[.int .i64 y, .pointer q] 24) = W) :
    W.heap[w.heap.size]? = some (.cells #[.int .i64 y, .pointer q] 24) ∧ Below w.heap.size w W ∧ W.heap.size = w.heap.size + 1 := by
  subst hW
  exact ⟨World.alloc_heap_new w _, (Below.refl _ _).alloc (Nat.le_refl _) _, by simp⟩

/-- What a text of a number says is its text. -/
theorem text_is {z : Int} {l : List UInt8} {w : World} {v : Value} (h : parseZ l = some z) (hb : BigAt w v z) (hlen : (limbs z.natAbs).length ≤ 1000000) (ht : Tab w) :
    Calls Tryd.prog 16 #[v] w fun e w' => e = .returned (.string ⟨l.toArray⟩) ∧ Below w.heap.size w w' := by
  have := text_big z v w hb hlen ht
  rw [text_of_parse h] at this; exact this

theorem known_p1 (w : World) : Calls Tryd.prog 9 #[.string ⟨#[49, 56, 52, 52, 54, 55, 52, 52, 48, 55, 51, 55, 48, 57, 53, 53, 49, 54, 49, 54]⟩] w fun e w' => ∃ v, e = .returned (.tuple #[v, .int .i64 0]) ∧ BigAt w' v 18446744073709551616 ∧ Below w.heap.size w w' :=
  parse_any ⟨#[49, 56, 52, 52, 54, 55, 52, 52, 48, 55, 51, 55, 48, 57, 53, 53, 49, 54, 49, 54]⟩ w (by decide)
theorem known_p2 (w : World) : Calls Tryd.prog 9 #[.string ⟨#[45, 48]⟩] w fun e w' => ∃ v, e = .returned (.tuple #[v, .int .i64 10]) ∧ BigAt w' v 0 ∧ Below w.heap.size w w' :=
  parse_any ⟨#[45, 48]⟩ w (by decide)
theorem known_d1 (w : World) : Calls Tryd.prog 29 #[.agg #[.int .i64 (-7), .pointer none], .agg #[.int .i64 2, .pointer none]] w fun e w' => e = .returned (.tuple #[.agg #[.int .i64 (-3), .pointer none], .int .i64 0]) ∧ Below w.heap.size w w' :=
  divUp_ints (-7) 2 w (by unfold Fits; omega) (by unfold Fits; omega) (by omega)
theorem known_d2 (w : World) : Calls Tryd.prog 29 #[.agg #[.int .i64 7, .pointer none], .agg #[.int .i64 2, .pointer none]] w fun e w' => e = .returned (.tuple #[.agg #[.int .i64 4, .pointer none], .int .i64 0]) ∧ Below w.heap.size w w' :=
  divUp_ints 7 2 w (by unfold Fits; omega) (by unfold Fits; omega) (by omega)
theorem known_d3 (w : World) : Calls Tryd.prog 29 #[.agg #[.int .i64 1, .pointer none], .agg #[.int .i64 0, .pointer none]] w fun e w' => e = .returned (.tuple #[.agg #[.int .i64 0, .pointer none], .int .i64 11]) ∧ Below w.heap.size w w' :=
  divUp_none 1 0 _ _ w (.inl ⟨by unfold Fits; omega, rfl⟩) (.inl ⟨by unfold Fits; omega, rfl⟩) (by omega)
theorem known_len : (limbs (18446744073709551616 : Int).natAbs).length ≤ 1000000 := by
  have : (limbs (18446744073709551616 : Int).natAbs).length ≤ 3 := by rw [Bn.limbs_length_le]; decide
  omega
theorem known_len2 : (limbs (18446744073709551616 * 18446744073709551616 : Int).natAbs).length ≤ 1000000 := by
  have : (limbs (18446744073709551616 * 18446744073709551616 : Int).natAbs).length ≤ 5 := by rw [Bn.limbs_length_le]; decide
  omega
theorem known_t1 (w : World) (v : Value) (hb : BigAt w v (18446744073709551616 * 18446744073709551616)) (ht : Tab w) :
    Calls Tryd.prog 16 #[v] w fun e w' => e = .returned (.string ⟨#[51, 52, 48, 50, 56, 50, 51, 54, 54, 57, 50, 48, 57, 51, 56, 52, 54, 51, 52, 54, 51, 51, 55, 52, 54, 48, 55, 52, 51, 49, 55, 54, 56, 50, 49, 49, 52, 53, 54]⟩) ∧ Below w.heap.size w w' :=
  text_is (l := [51, 52, 48, 50, 56, 50, 51, 54, 54, 57, 50, 48, 57, 51, 56, 52, 54, 51, 52, 54, 51, 51, 55, 52, 54, 48, 55, 52, 51, 49, 55, 54, 56, 50, 49, 49, 52, 53, 54]) (by rfl) hb known_len2 ht
theorem known_t2 (w : World) (ht : Tab w) :
    Calls Tryd.prog 16 #[.agg #[.int .i64 (-3), .pointer none]] w fun e w' => e = .returned (.string ⟨#[45, 51]⟩) ∧ Below w.heap.size w w' :=
  text_is (z := -3) (l := [45, 51]) (by rfl) (.inl ⟨by unfold Fits; omega, rfl⟩) (by decide) ht
theorem known_t3 (w : World) (ht : Tab w) :
    Calls Tryd.prog 16 #[.agg #[.int .i64 4, .pointer none]] w fun e w' => e = .returned (.string ⟨#[52]⟩) ∧ Below w.heap.size w w' :=
  text_is (z := 4) (l := [52]) (by rfl) (.inl ⟨by unfold Fits; omega, rfl⟩) (by decide) ht

/-- What stays while known's last row is reckoned. -/
def Keys (W : World) (NA NQ NR : Nat) (ya : Int) (qa : Option Addr) (w' : World) : Prop :=
  w'.cell? ⟨NA, 0, none⟩ = some (.int .i64 ya) ∧ w'.cell? ⟨NA, 1, none⟩ = some (.pointer qa) ∧ w'.cell? ⟨NQ, 0, none⟩ = some (.int .i64 (-3)) ∧ w'.cell? ⟨NQ, 1, none⟩ = some (.pointer none) ∧
  w'.cell? ⟨NR, 0, none⟩ = some (.int .i64 4) ∧ w'.cell? ⟨NR, 1, none⟩ = some (.pointer none) ∧ NA < w'.heap.size ∧ NQ < w'.heap.size ∧ NR < w'.heap.size ∧ Tab w' ∧ BigAt w' (.agg #[.int .i64 ya, .pointer qa]) 18446744073709551616 ∧ Below W.heap.size W w'
theorem Keys.next {W : World} {NA NQ NR : Nat} {ya : Int} {qa : Option Addr} {w1 w2 : World} (h : Keys W NA NQ NR ya qa w1) (hb : Below w1.heap.size w1 w2) : Keys W NA NQ NR ya qa w2 := by
  obtain ⟨h1, h2, h3, h4, h5, h6, h7, h8, h9, h10, h11, h12⟩ := h
  exact ⟨(hb.cell (p := ⟨NA, 0, none⟩) h7).trans h1, (hb.cell (p := ⟨NA, 1, none⟩) h7).trans h2, (hb.cell (p := ⟨NQ, 0, none⟩) h8).trans h3, (hb.cell (p := ⟨NQ, 1, none⟩) h8).trans h4, (hb.cell (p := ⟨NR, 0, none⟩) h9).trans h5, (hb.cell (p := ⟨NR, 1, none⟩) h9).trans h6,
    Nat.lt_of_lt_of_le h7 hb.size, Nat.lt_of_lt_of_le h8 hb.size, Nat.lt_of_lt_of_le h9 hb.size, h10.below hb h10.2, h11.below hb, h12.trans (hb.mono h12.size)⟩
theorem Keys.tab {W : World} {NA NQ NR : Nat} {ya : Int} {qa : Option Addr} {w1 : World} (h : Keys W NA NQ NR ya qa w1) : Tab w1 := h.2.2.2.2.2.2.2.2.2.1
theorem Keys.big {W : World} {NA NQ NR : Nat} {ya : Int} {qa : Option Addr} {w1 : World} (h : Keys W NA NQ NR ya qa w1) : BigAt w1 (.agg #[.int .i64 ya, .pointer qa]) 18446744073709551616 := h.2.2.2.2.2.2.2.2.2.2.1
theorem Keys.rest {W : World} {NA NQ NR : Nat} {ya : Int} {qa : Option Addr} {w1 : World} (h : Keys W NA NQ NR ya qa w1) : Below W.heap.size W w1 := h.2.2.2.2.2.2.2.2.2.2.2

set_option maxRecDepth 100000 in
set_option maxHeartbeats 2000000 in
theorem known_any (w : World) (ht : Tab w) :
    Calls Tryd.prog 32 #[] w fun e w' => e = .returned (.bool true) ∧ Below w.heap.size w w' := by
  go_enter Tryd.func32, Tryd.ntmps32
  go_wp2_with fail
  refine (known_p1 _).mono ?_
  rintro e w1 ⟨va, rfl, hA, hb1⟩
  obtain ⟨ya, qa, rfl⟩ := hA.shape
  go_wp2_with fail
  generalize hW1 : w1.alloc (.cells #[.int .i64 ya, .pointer qa] 24) = W1
  obtain ⟨bA, hB1, hs1⟩ := new_box w1 ya qa hW1
  clear hW1
  refine (of_any _ _).mono ?_
  rintro e w2 ⟨rfl, hb2⟩
  go_wp2_with fail
  refine (of_any _ _).mono ?_
  rintro e w3 ⟨rfl, hb3⟩
  go_wp2_with fail
  refine (known_d1 _).mono ?_
  rintro e w4 ⟨rfl, hb4⟩
  go_wp2_with fail
  generalize hW4 : w4.alloc (.cells #[.int .i64 (-3), .pointer none] 24) = W4
  obtain ⟨bQ, hB4, hs4⟩ := new_box w4 (-3) none hW4
  clear hW4
  refine (of_any _ _).mono ?_
  rintro e w5 ⟨rfl, hb5⟩
  go_wp2_with fail
  refine (of_any _ _).mono ?_
  rintro e w6 ⟨rfl, hb6⟩
  go_wp2_with fail
  refine (known_d2 _).mono ?_
  rintro e w7 ⟨rfl, hb7⟩
  go_wp2_with fail
  generalize hW7 : w7.alloc (.cells #[.int .i64 4, .pointer none] 24) = W7
  obtain ⟨bR, hB7, hs7⟩ := new_box w7 4 none hW7
  clear hW7
  refine (of_any _ _).mono ?_
  rintro e w8 ⟨rfl, hb8⟩
  go_wp2_with fail
  refine (of_any _ _).mono ?_
  rintro e w9 ⟨rfl, hb9⟩
  go_wp2_with fail
  refine (known_d3 _).mono ?_
  rintro e wa ⟨rfl, hba⟩
  go_wp2_with fail
  generalize hWa : wa.alloc (.cells #[.int .i64 0, .pointer none] 24) = Wa
  obtain ⟨_, hBa, hsa⟩ := new_box wa 0 none hWa
  clear hWa
  refine (known_p2 _).mono ?_
  rintro e wb ⟨vz, rfl, hZ, hbb⟩
  obtain ⟨yz, qz, rfl⟩ := hZ.shape
  go_wp2_with fail
  generalize hWb : wb.alloc (.cells #[.int .i64 yz, .pointer qz] 24) = Wb
  obtain ⟨_, hBb, hsb⟩ := new_box wb yz qz hWb
  clear hWb
  have k14 : Below W1.heap.size W1 w4 := (hb2.trans (hb3.mono hb2.size)).trans (hb4.mono (Nat.le_trans hb2.size hb3.size))
  have k47 : Below W4.heap.size W4 w7 := (hb5.trans (hb6.mono hb5.size)).trans (hb7.mono (Nat.le_trans hb5.size hb6.size))
  have k7a : Below W7.heap.size W7 wa := (hb8.trans (hb9.mono hb8.size)).trans (hba.mono (Nat.le_trans hb8.size hb9.size))
  have k7b : Below W7.heap.size W7 Wb := (((k7a.trans (hBa.mono k7a.size)).trans (hbb.mono (Nat.le_trans k7a.size hBa.size))).trans (hBb.mono (Nat.le_trans (Nat.le_trans k7a.size hBa.size) hbb.size)))
  have k4b : Below W4.heap.size W4 Wb := (k47.trans (hB7.mono k47.size)).trans (k7b.mono (Nat.le_trans k47.size hB7.size))
  have k1b : Below W1.heap.size W1 Wb := (k14.trans (hB4.mono k14.size)).trans (k4b.mono (Nat.le_trans k14.size hB4.size))
  have kwb : Below w.heap.size w Wb := (hb1.trans (hB1.mono hb1.size)).trans (k1b.mono (Nat.le_trans hb1.size hB1.size))
  have hsA : w1.heap.size < Wb.heap.size := by have := k1b.size; omega
  have hsQ : w4.heap.size < Wb.heap.size := by have := k4b.size; omega
  have hsR : w7.heap.size < Wb.heap.size := by have := k7b.size; omega
  obtain ⟨a0, a1, _, _⟩ := box_facts ((k1b.block w1.heap.size (by omega)).trans bA)
  obtain ⟨c0, c1, _, _⟩ := box_facts ((k4b.block w4.heap.size (by omega)).trans bQ)
  obtain ⟨d0, d1, _, _⟩ := box_facts ((k7b.block w7.heap.size (by omega)).trans bR)
  have hS0 : Keys Wb w1.heap.size w4.heap.size w7.heap.size ya qa Wb := ⟨a0, a1, c0, c1, d0, d1, hsA, hsQ, hsR, ht.below kwb ht.2, (hA.below hB1).below k1b, Below.refl _ _⟩
  have hS : Keys Wb w1.heap.size w4.heap.size w7.heap.size ya qa Wb := hS0
  clear hb1 hb2 hb3 hb4 hb5 hb6 hb7 hb8 hb9 hba hbb hBb hBa hB1 hB4 hB7 k14 k47 k7a k7b k4b k1b bA bQ bR hA hZ ht hs1 hs4 hs7 hsa hsb hsA hsQ hsR hS0
  have KW : Hid (Below w.heap.size w Wb) := kwb
  clear kwb
  generalize w1.heap.size = NA at *
  generalize w4.heap.size = NQ at *
  generalize w7.heap.size = NR at *
  go_wp2_with (first
      | (go_at_call 11; go_in)
      | (go_at_call 27; refine calls_at (mul_big _ _ _ _ _ (Keys.big hS) (Keys.big hS) known_len known_len) (by with_reducible rfl) (by with_reducible rfl) ?_; rintro e w' ⟨r, rfl, hr, hb⟩; obtain ⟨yr, qr, hrs⟩ := hr.shape; subst hrs; have hS := Keys.next hS hb; obtain ⟨a0, a1, c0, c1, d0, d1, _⟩ := id hS)
      | (go_at_call 16; refine calls_at (known_t2 _ (Keys.tab hS)) (by with_reducible rfl) (by with_reducible rfl) ?_; rintro e w' ⟨rfl, hb⟩; have hS := Keys.next hS hb; obtain ⟨a0, a1, c0, c1, d0, d1, _⟩ := id hS)
      | (go_at_call 16; refine calls_at (known_t3 _ (Keys.tab hS)) (by with_reducible rfl) (by with_reducible rfl) ?_; rintro e w' ⟨rfl, hb⟩; have hS := Keys.next hS hb; obtain ⟨a0, a1, c0, c1, d0, d1, _⟩ := id hS)
      | (go_at_call 16; refine calls_at (known_t1 _ _ hr (Keys.tab hS)) (by with_reducible rfl) (by with_reducible rfl) ?_; rintro e w' ⟨rfl, hb⟩; have hS := Keys.next hS hb; obtain ⟨a0, a1, c0, c1, d0, d1, _⟩ := id hS))
  have hfin : Below w.heap.size w w' := KW.out.trans ((Keys.rest hS).mono KW.out.size)
  go_ret
  exact ⟨rfl, hfin⟩
end Go.Proofs.YtangepgiamhenaaDoor
