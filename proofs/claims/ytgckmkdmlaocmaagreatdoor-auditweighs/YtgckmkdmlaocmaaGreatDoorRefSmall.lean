/-
  The document's numbers: Small.
-/
import Derived.Test.YtgckmkdmlaocmaaGreatDoorJ06
import Derived.Deep.RegionHeld3
import Derived.Deep.DrawnRows
namespace Go.Proofs.YtgckmkdmlaocmaaGreatDoor
open Go.RowKit
open Bn (limbs)
attribute [local go_sem ↓] Go.wp_at_zero Go.wp_at_succ

theorem ret_ib {k : IntKind} {a b : Int} {c d : Bool} (h : a = b) (h' : c = d) : Ending.returned (.tuple #[.int k a, .bool c]) = .returned (.tuple #[.int k b, .bool d]) := by rw [h, h']

/-- What stays of a document's number that lies boxed in block N, whatever grows. -/
def Boxed (W : World) (N : Nat) (d : Bool) (s : Value) (z : Int) (w' : World) : Prop :=
  w'.cell? ⟨N, 0, none⟩ = some (.bool d) ∧ w'.cell? ⟨N, 1, none⟩ = some s ∧ RefAt w' (.agg #[.bool d, s]) z ∧ N < w'.heap.size ∧ Below W.heap.size W w'

theorem Boxed.next {W : World} {N : Nat} {d : Bool} {s : Value} {z : Int} {w1 w2 : World} (h : Boxed W N d s z w1) (hb : Below w1.heap.size w1 w2) : Boxed W N d s z w2 := by
  obtain ⟨h1, h2, h3, h4, h5⟩ := h
  exact ⟨(hb.cell (p := ⟨N, 0, none⟩) h4).trans h1, (hb.cell (p := ⟨N, 1, none⟩) h4).trans h2, h3.below hb, Nat.lt_of_lt_of_le h4 hb.size, h5.trans (hb.mono h5.size)⟩

theorem Boxed.ref {W : World} {N : Nat} {d : Bool} {s : Value} {z : Int} {w1 : World} (h : Boxed W N d s z w1) : RefAt w1 (.agg #[.bool d, s]) z := h.2.2.1

set_option maxHeartbeats 400000 in
set_option maxRecDepth 100000 in
theorem refSmall_in (z : Int) (v : Value) (w : World) (h : RefAt w v z) (h1 : -9223372036854775808 ≤ z) (h2 : z ≤ 9223372036854775807) :
    Calls Tryz.prog 86 #[v] w fun e w' => e = .returned (.tuple #[.int .i64 z, .bool true]) ∧ Below w.heap.size w w' := by
  obtain ⟨s, rfl, hs⟩ := h
  obtain ⟨pa, cs, rfl, hls⟩ := hs.form
  unfold maxLen at hls
  have hb0 : Below w.heap.size w (w.alloc (.cells #[.bool (decide (z < 0)), .slice pa (limbs z.natAbs).length cs] 105)) := (Below.refl _ _).alloc (Nat.le_refl _) _
  have HR : RefAt (w.alloc (.cells #[.bool (decide (z < 0)), .slice pa (limbs z.natAbs).length cs] 105)) (.agg #[.bool (decide (z < 0)), .slice pa (limbs z.natAbs).length cs]) z := ⟨_, rfl, hs.below hb0⟩
  go_enter Tryz.func86, Tryz.ntmps86
  go_wp2
  generalize hW : w.alloc (.cells #[.bool (decide (z < 0)), .slice pa (limbs z.natAbs).length cs] 105) = W at *
  have hN : W.heap.size = w.heap.size + 1 := by rw [← hW]; simp
  have c0 : W.cell? ⟨w.heap.size, 0, none⟩ = some (.bool (decide (z < 0))) := by rw [← hW]; simp
  have c1 : W.cell? ⟨w.heap.size, 1, none⟩ = some (.slice pa (limbs z.natAbs).length cs) := by rw [← hW]; simp
  generalize hd : decide (z < 0) = d at *
  have HW : Hid _ := hW
  have HD : Hid _ := hd
  clear hW hd
  have hc1 : ¬ 0 < cmpI z 9223372036854775807 := by
    rcases Int.lt_or_eq_of_le h2 with h | h
    · rw [cmpI_lt h]; decide
    · rw [cmpI_eq (by omega) (by omega)]; decide
  have hc2 : ¬ cmpI z (-9223372036854775808) < 0 := by
    rcases Int.lt_or_eq_of_le h1 with h | h
    · rw [cmpI_gt h]; decide
    · rw [cmpI_eq (by omega) (by omega)]; decide
  have hc1' : decide (0 < cmpI z 9223372036854775807) = false := by simpa using hc1
  have hc2' : decide (cmpI z (-9223372036854775808) < 0) = false := by simpa using hc2
  clear hc1 hc2
  have hbW : Below w.heap.size w W := hb0
  have h1' : Hid _ := h1
  have h2' : Hid _ := h2
  clear h1 h2 hb0 hs
  have hS : Boxed W w.heap.size d (.slice pa (limbs z.natAbs).length cs) z W.drew := ⟨c0, c1, HR.below (Below.refl _ _).drew, by show _ < W.heap.size; omega, (Below.refl _ _).drew⟩
  go_region_held3 (fun w' => w'.cell? ⟨w.heap.size, 0, none⟩ = some (.bool d) ∧ w'.cell? ⟨w.heap.size, 1, none⟩ = some (.slice pa (limbs z.natAbs).length cs) ∧ RefAt w' (.agg #[.bool d, .slice pa (limbs z.natAbs).length cs]) z ∧ w.heap.size < w'.heap.size ∧ Below W.heap.size W w')
    (first | exact hS | (refine Boxed.next (by assumption) (by assumption)))
    (first
      | (go_at_call 85; refine (refOf_any _ _ (by decide) (by decide)).mono ?_; rintro e w' ⟨v, rfl, hr, hb⟩)
      | (go_at_call 84; refine (refCmp_any z _ _ _ _ (Boxed.ref (by assumption)) (by assumption)).mono ?_; rintro e w' ⟨rfl, hb⟩))
  rename_i hHeld
  obtain ⟨d0, d1, dr, dn, db⟩ := hHeld
  have hbw : Below w.heap.size w w' := hbW.trans (db.mono hbW.size)
  obtain ⟨s', es, hI⟩ := dr
  obtain rfl : Value.slice pa (limbs z.natAbs).length cs = s' := by injection es with e; injection e with e; simp at e; exact e.2
  have HI : Hid (IntsAt w' (.slice pa (limbs z.natAbs).length cs) (limbs z.natAbs)) := hI
  have hx1 : Hid (z.natAbs ≤ 9223372036854775808) := by have := h1'.out; have := h2'.out; show _ ≤ _; omega
  clear hI es c0 c1 HR HW hbW hS hr hb db dn hc1' hc2' hN
  go_wp2
  go_loop [4, 5] (fun nv iv => ∃ (k : Nat) (i m : Int), iv = .int .i64 i ∧ i = (k : Int) - 1 ∧ k ≤ (limbs z.natAbs).length ∧ nv = .int .i64 m ∧ m = -((z.natAbs / 1000000000 ^ k : Nat) : Int)) (fun _ iv => (intOf iv + 1).toNat)
  case atStart =>
    refine ⟨(limbs z.natAbs).length, _, _, rfl, rfl, Nat.le_refl _, rfl, ?_⟩
    rw [Nat.div_eq_of_lt ((Bn.limbs_length_le _ _).1 (Nat.le_refl _))]; rfl
  case round =>
    obtain ⟨k, i, m, rfl, hik, hk, rfl, hm⟩ := hrel
    cases k with
    | zero =>
      obtain rfl : i = -1 := by omega
      have hm' : m = -(z.natAbs : Int) := by rw [hm]; simp
      have hx := hx1.out
      have hz1 := h1'.out
      have hz2 := h2'.out
      have HD' := HD.out
      cases d with
      | true =>
        have hz : z < 0 := by simpa using HD'
        have HM : Hid (z = m) := by show z = m; omega
        clear hik hm hm' hx hz1 hz2 HD' hz HI
        go_wp2
        go_ret2
        exact ⟨ret_ib HM.out.symm rfl, hbw⟩
      | false =>
        have hz : ¬ z < 0 := by simpa using HD'
        have hmb : -9223372036854775807 ≤ m := by omega
        have hmb2 : m ≤ 0 := by omega
        have HM : Hid (z = -m) := by show z = -m; omega
        clear hik hm hm' hx hz1 hz2 HD' hz HI
        go_wp2
        go_ret2
        exact ⟨ret_ib HM.out.symm rfl, hbw⟩
    | succ j =>
      obtain rfl : i = (j : Int) := by omega
      have hj : j < (limbs z.natAbs).length := by omega
      obtain ⟨ba, ca', hva, hba, _, _, hca⟩ := HI.out.pos (by omega)
      injection hva with e1 e2 e3
      subst e1 e3
      have g1 := hca j hj
      have g2 := Bn.get_limbs hj
      have g3 := top_step z.natAbs j
      have g4 : z.natAbs / 1000000000 ^ j ≤ z.natAbs := Nat.div_le_self _ _
      have g5 := hx1.out
      rw [← g2] at g3
      have g6 := Bn.limbs_get_lt hj
      generalize (limbs z.natAbs)[j] = p at *
      have b1 : -9223372036854775808 ≤ 1000000000 * m := by omega
      have b2 : m ≤ 0 := by omega
      have b3 : -9223372036854775808 ≤ 1000000000 * m - (p : Int) := by omega
      have HM : Hid (1000000000 * m - (p : Int) = -((z.natAbs / 1000000000 ^ j : Nat) : Int)) := by show _ = _; omega
      have h3 : (j : Int) < ((limbs z.natAbs).length : Int) := by omega
      clear hik hm hca g2 g3 g4 g5 HI
      go_wp2
      go_round
      case rel => exact ⟨j, _, _, rfl, rfl, by omega, rfl, HM.out⟩
      case measure => simp [intOf]

end Go.Proofs.YtgckmkdmlaocmaaGreatDoor
