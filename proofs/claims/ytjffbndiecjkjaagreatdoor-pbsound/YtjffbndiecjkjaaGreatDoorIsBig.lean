/-
  'is', of a program's number and the document's.
-/
import Derived.Test.YtjffbndiecjkjaaGreatDoorTextWide
import Derived.Test.YtjffbndiecjkjaaGreatDoorRefAll
import Derived.Deep.RegionWith
namespace Go.Proofs.YtjffbndiecjkjaaGreatDoor
open Go.RowKit
open Bn (limbs)
attribute [local go_sem ↓] Go.wp_at_zero Go.wp_at_succ

/-- What Small answers. -/
def smallB (z : Int) : Bool := decide (-9223372036854775808 ≤ z ∧ z ≤ 9223372036854775807)
def smallV (z : Int) : Int := if smallB z = true then z else 0
theorem smallB_yes {z : Int} (h : Fits z) : smallB z = true := decide_eq_true h
theorem smallB_no {z : Int} (h : ¬ Fits z) : smallB z = false := decide_eq_false h

set_option maxHeartbeats 400000 in
theorem negative_big (z : Int) (v : Value) (w : World) (h : BigAt w v z) :
    Calls Tryz.prog 46 #[v] w fun e w' => e = .returned (.bool (decide (z < 0))) ∧ Below w.heap.size w w' := by
  rcases h with ⟨_, rfl⟩ | ⟨_, p, s, rfl, hp, h0, h1, hU⟩
  · exact negative_int z w
  · have h0' : (w.alloc (.cells #[.int .i64 0, .pointer (some ⟨p, 0, none⟩)] 33)).cell? ⟨p, 0, none⟩ = some (.bool (decide (z < 0))) := (World.cell?_alloc_past _ _ _ hp).trans h0
    generalize decide (z < 0) = d at *
    go_enter Tryz.func46, Tryz.ntmps46
    go_wp2
    go_ret
    exact ⟨rfl, (Below.refl _ _).alloc (Nat.le_refl _) _⟩

set_option maxHeartbeats 400000 in
theorem sign_big (z : Int) (v : Value) (w : World) (h : BigAt w v z) :
    Calls Tryz.prog 15 #[v] w fun e w' => e = .returned (.int .i64 z.sign) ∧ Below w.heap.size w w' := by
  rcases h with ⟨_, rfl⟩ | h
  · exact sign_int z w
  · have hz : z ≠ 0 := by rintro rfl; exact h.1 (by unfold Fits; omega)
    obtain ⟨hf, p, s, rfl, hp, h0, h1, hU⟩ := h
    have hb0 : Below w.heap.size w (w.alloc (.cells #[.int .i64 0, .pointer (some ⟨p, 0, none⟩)] 33)) := (Below.refl _ _).alloc (Nat.le_refl _) _
    have HB : Hid (BigAt (w.alloc (.cells #[.int .i64 0, .pointer (some ⟨p, 0, none⟩)] 33)) (.agg #[.int .i64 0, .pointer (some ⟨p, 0, none⟩)]) z) := BigAt.below (.inr ⟨hf, p, s, rfl, hp, h0, h1, hU⟩) hb0
    rcases Int.lt_or_gt_of_ne hz with hn | hn
    · have hd : decide (z < 0) = true := by simpa using hn
      clear hf h0 h1 hU
      go_enter Tryz.func15, Tryz.ntmps15
      go_wp2_with (go_at_call 46; refine (negative_big z _ _ HB.out).mono ?_; rintro e w' ⟨rfl, hb⟩; rw [hd])
      go_ret
      exact ⟨ret_int (Int.sign_eq_neg_one_of_neg hn).symm, hb0.trans (hb.mono (by simp))⟩
    · have hd : decide (z < 0) = false := by simp; omega
      clear hf h0 h1 hU
      go_enter Tryz.func15, Tryz.ntmps15
      go_wp2_with (go_at_call 46; refine (negative_big z _ _ HB.out).mono ?_; rintro e w' ⟨rfl, hb⟩; rw [hd]; obtain ⟨hc, hf⟩ := bcell hb)
      go_ret
      exact ⟨ret_int (Int.sign_eq_one_of_pos hn).symm, hb0.trans (hb.mono (by simp))⟩

theorem text_big (z : Int) (v : Value) (w : World) (h : BigAt w v z) (hlen : (limbs z.natAbs).length ≤ 1000000) (ht : Tab w) :
    Calls Tryz.prog 41 #[v] w fun e w' => e = .returned (.string ⟨(Lib.itoa z).toArray⟩) ∧ Below w.heap.size w w' := by
  by_cases hf : Fits z
  · rcases h with ⟨_, rfl⟩ | ⟨h, _⟩
    · exact text_int z w hf.1 hf.2 ht
    · exact absurd hf h
  · exact text_wide z v w h hf hlen ht

/-- What stays of the two numbers that 'is' has boxed. -/
def BothB (W : World) (N : Nat) (y : Int) (q : Option Addr) (d : Bool) (s : Value) (z : Int) (w' : World) : Prop :=
  w'.cell? ⟨N, 0, none⟩ = some (.int .i64 y) ∧ w'.cell? ⟨N, 1, none⟩ = some (.pointer q) ∧ w'.cell? ⟨N + 1, 0, none⟩ = some (.bool d) ∧ w'.cell? ⟨N + 1, 1, none⟩ = some s ∧
  RefAt w' (.agg #[.bool d, s]) z ∧ BigAt w' (.agg #[.int .i64 y, .pointer q]) z ∧ N + 1 < w'.heap.size ∧ Tab w' ∧ Below W.heap.size W w'

theorem BothB.next {W : World} {N : Nat} {y : Int} {q : Option Addr} {d : Bool} {s : Value} {z : Int} {w1 w2 : World} (h : BothB W N y q d s z w1) (hb : Below w1.heap.size w1 w2) : BothB W N y q d s z w2 := by
  obtain ⟨h1, h2, h3, h4, h5, h5', h6, h7, h8⟩ := h
  exact ⟨(hb.cell (p := ⟨N, 0, none⟩) (by show N < _; omega)).trans h1, (hb.cell (p := ⟨N, 1, none⟩) (by show N < _; omega)).trans h2, (hb.cell (p := ⟨N + 1, 0, none⟩) h6).trans h3, (hb.cell (p := ⟨N + 1, 1, none⟩) h6).trans h4,
    h5.below hb, h5'.below hb, Nat.lt_of_lt_of_le h6 hb.size, h7.below hb h7.2, h8.trans (hb.mono h8.size)⟩
theorem BothB.ref {W : World} {N : Nat} {y : Int} {q : Option Addr} {d : Bool} {s : Value} {z : Int} {w1 : World} (h : BothB W N y q d s z w1) : RefAt w1 (.agg #[.bool d, s]) z := h.2.2.2.2.1
theorem BothB.big {W : World} {N : Nat} {y : Int} {q : Option Addr} {d : Bool} {s : Value} {z : Int} {w1 : World} (h : BothB W N y q d s z w1) : BigAt w1 (.agg #[.int .i64 y, .pointer q]) z := h.2.2.2.2.2.1
theorem BothB.tab {W : World} {N : Nat} {y : Int} {q : Option Addr} {d : Bool} {s : Value} {z : Int} {w1 : World} (h : BothB W N y q d s z w1) : Tab w1 := h.2.2.2.2.2.2.2.1

end Go.Proofs.YtjffbndiecjkjaaGreatDoor
