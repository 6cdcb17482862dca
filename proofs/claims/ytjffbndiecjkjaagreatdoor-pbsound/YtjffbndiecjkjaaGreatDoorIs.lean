/-
  Text of an int; the law's own 'is'.
-/
import Derived.Test.YtjffbndiecjkjaaGreatDoorRefAll
import Derived.Test.YtjffbndiecjkjaaGreatDoorShelf
namespace Go.Proofs.YtjffbndiecjkjaaGreatDoor
open Go.RowKit
open Bn (limbs)
attribute [local go_sem ↓] Go.wp_at_zero Go.wp_at_succ

theorem gPow : ∃ g, Tryz.prog.globalNamed "internal/strconv.uint64pow10" = some g ∧ g < 1 := ⟨0, by kernel_rfl, by decide⟩

/-- The library's table of powers of ten is laid. -/
def Tab (w : World) : Prop := Lib.TabIs Tryz.prog w "internal/strconv.uint64pow10" .u64 Lib.pow10Tab ∧ 1 ≤ w.heap.size

theorem Tab.below {w w' : World} {B : Nat} (h : Tab w) (hb : Below B w w') (hB : 1 ≤ B) : Tab w' := by
  obtain ⟨g, hg, hg5⟩ := gPow
  exact ⟨var?_below hb hg (by omega) h.1, Nat.le_trans h.2 hb.size⟩

theorem below_grow (w : World) (q : Nat) (os : Array Obj) : Below w.heap.size w (Sort.grow (w.drewN q) os) :=
  ⟨rfl, rfl, rfl, by simp [Sort.grow], fun i hi => by
    show ((w.drewN q).heap ++ os)[i]? = _
    rw [Array.getElem?_append_left (by show i < w.heap.size; omega)]
    rfl⟩

set_option maxHeartbeats 400000 in
/-- Text, of an int. -/
theorem text_int (n : Int) (w : World) (h1 : -9223372036854775808 ≤ n) (h2 : n ≤ 9223372036854775807) (ht : Tab w) :
    Calls Tryz.prog 41 #[.agg #[.int .i64 n, .pointer none]] w fun e w' => e = .returned (.string ⟨(Lib.itoa n).toArray⟩) ∧ Below w.heap.size w w' := by
  have hb0 : Below w.heap.size w (w.alloc (.cells #[.int .i64 n, .pointer none] 33)) := (Below.refl _ _).alloc (Nat.le_refl _) _
  have HT : Hid (Tab (w.alloc (.cells #[.int .i64 n, .pointer none] 33))) := ht.below hb0 ht.2
  go_enter Tryz.func41, Tryz.ntmps41
  go_wp2_with (go_at_call 71; refine (Tryz.strconv_Itoa n h1 h2 _ HT.out.1).mono ?_; rintro e w' ⟨rfl, k, os, rfl⟩)
  go_ret
  exact ⟨rfl, hb0.trans ((below_grow _ _ _).mono (by simp))⟩

/-- What stays of the two numbers that 'is' has boxed. -/
def Both (W : World) (N : Nat) (n : Int) (d : Bool) (s : Value) (z : Int) (w' : World) : Prop :=
  w'.cell? ⟨N, 0, none⟩ = some (.int .i64 n) ∧ w'.cell? ⟨N, 1, none⟩ = some (.pointer none) ∧ w'.cell? ⟨N + 1, 0, none⟩ = some (.bool d) ∧ w'.cell? ⟨N + 1, 1, none⟩ = some s ∧
  RefAt w' (.agg #[.bool d, s]) z ∧ N + 1 < w'.heap.size ∧ Tab w' ∧ Below W.heap.size W w'

theorem Both.next {W : World} {N : Nat} {n : Int} {d : Bool} {s : Value} {z : Int} {w1 w2 : World} (h : Both W N n d s z w1) (hb : Below w1.heap.size w1 w2) : Both W N n d s z w2 := by
  obtain ⟨h1, h2, h3, h4, h5, h6, h7, h8⟩ := h
  exact ⟨(hb.cell (p := ⟨N, 0, none⟩) (by show N < _; omega)).trans h1, (hb.cell (p := ⟨N, 1, none⟩) (by show N < _; omega)).trans h2, (hb.cell (p := ⟨N + 1, 0, none⟩) h6).trans h3, (hb.cell (p := ⟨N + 1, 1, none⟩) h6).trans h4,
    h5.below hb, Nat.lt_of_lt_of_le h6 hb.size, h7.below hb h7.2, h8.trans (hb.mono h8.size)⟩
theorem Both.ref {W : World} {N : Nat} {n : Int} {d : Bool} {s : Value} {z : Int} {w1 : World} (h : Both W N n d s z w1) : RefAt w1 (.agg #[.bool d, s]) z := h.2.2.2.2.1
theorem Both.tab {W : World} {N : Nat} {n : Int} {d : Bool} {s : Value} {z : Int} {w1 : World} (h : Both W N n d s z w1) : Tab w1 := h.2.2.2.2.2.2.1

end Go.Proofs.YtjffbndiecjkjaaGreatDoor
