/-
  Text of an int; the law's own 'is'.
-/
import Derived.Test.YtangepgiamhenaaDoorRefTwo
import Derived.Test.YtangepgiamhenaaDoorRefText
import Derived.Test.YtangepgiamhenaaDoorShelf
namespace Go.Proofs.YtangepgiamhenaaDoor
open Go.RowKit
open Bn (limbs)
attribute [local go_sem ↓] Go.wp_at_zero Go.wp_at_succ

theorem gPow : ∃ g, Tryd.prog.globalNamed "internal/strconv.uint64pow10" = some g ∧ g < 1 := ⟨0, by kernel_rfl, by decide⟩

/-- The library's table of powers of ten is laid. -/
def Tab (w : World) : Prop := Lib.TabIs Tryd.prog w "internal/strconv.uint64pow10" .u64 Lib.pow10Tab ∧ 1 ≤ w.heap.size

theorem Tab.below {w w' : World} {B : Nat} (h : Tab w) (hb : Below B w w') (hB : 1 ≤ B) : Tab w' := by
  obtain ⟨g, hg, hg5⟩ := gPow
  exact ⟨var?_below hb hg (by omega) h.1, Nat.le_trans h.2 hb.size⟩

theorem below_grow (w : World) (q : Nat) (os : Array Obj) : Below w.heap.size w (Sort.grow (w.drewN q) os) :=
  ⟨rfl, rfl, rfl, by simp [Sort.grow], fun i hi => by
    show ((w.drewN q).heap ++ os)[i]? = _
    rw [Array.getElem?_append_left (by show i < w.heap.size; omega)]
    rfl⟩

set_option maxHeartbeats 400000 in
/-- Text, of an int. -/
theorem text_int (n : Int) (w : World) (h1 : -9223372036854775808 ≤ n) (h2 : n ≤ 9223372036854775807) (ht : Tab w) :
    Calls Tryd.prog 16 #[.agg #[.int .i64 n, .pointer none]] w fun e w' => e = .returned (.string ⟨(Lib.itoa n).toArray⟩) ∧ Below w.heap.size w w' := by
  have hb0 : Below w.heap.size w (w.alloc (.cells #[.int .i64 n, .pointer none] 24)) := (Below.refl _ _).alloc (Nat.le_refl _) _
  have HT : Hid (Tab (w.alloc (.cells #[.int .i64 n, .pointer none] 24))) := ht.below hb0 ht.2
  go_enter Tryd.func16, Tryd.ntmps16
  go_wp2_with (go_at_call 42; refine (Tryd.strconv_Itoa n h1 h2 _ HT.out.1).mono ?_; rintro e w' ⟨rfl, k, os, rfl⟩)
  go_ret
  exact ⟨rfl, hb0.trans ((below_grow _ _ _).mono (by simp))⟩

/-- What stays of the two numbers that 'is' has boxed. -/
def Both (W : World) (N : Nat) (n : Int) (d : Bool) (s : Value) (z : Int) (w' : World) : Prop :=
  w'.cell? ⟨N, 0, none⟩ = some (.int .i64 n) ∧ w'.cell? ⟨N, 1, none⟩ = some (.pointer none) ∧ w'.cell? ⟨N + 1, 0, none⟩ = some (.bool d) ∧ w'.cell? ⟨N + 1, 1, none⟩ = some s ∧
  RefAt w' (.agg #[.bool d, s]) z ∧ N + 1 < w'.heap.size ∧ Tab w' ∧ Below W.heap.size W w'

theorem Both.next {W : World} {N : Nat} {n : Int} {d : Bool} {s : Value} {z : Int} {w1 w2 : World} (h : Both W N n d s z w1) (hb : Below w1.heap.size w1 w2) : Both W N n d s z w2 := by
  obtain ⟨h1, h2, h3, h4, h5, h6, h7, h8⟩ := h
  exact ⟨(hb.cell (p := ⟨N, 0, none⟩) (by show N < _; omega)).trans h1, (hb.cell (p := ⟨N, 1, none⟩) (by show N < _; omega)).trans h2, (hb.cell (p := ⟨N + 1, 0, none⟩) h6).trans h3, (hb.cell (p := ⟨N + 1, 1, none⟩) h6).trans h4,
    h5.below hb, Nat.lt_of_lt_of_le h6 hb.size, h7.below hb h7.2, h8.trans (hb.mono h8.size)⟩
theorem Both.ref {W : World} {N : Nat} {n : Int} {d : Bool} {s : Value} {z : Int} {w1 : World} (h : Both W N n d s z w1) : RefAt w1 (.agg #[.bool d, s]) z := h.2.2.2.2.1
theorem Both.tab {W : World} {N : Nat} {n : Int} {d : Bool} {s : Value} {z : Int} {w1 : World} (h : Both W N n d s z w1) : Tab w1 := h.2.2.2.2.2.2.1

/-- Text of the document's number, for ints. -/
theorem refText_int (n : Int) (v : Value) (w : World) (h1 : -9223372036854775808 ≤ n) (h2 : n ≤ 9223372036854775807) (h : RefAt w v n) :
    Calls Tryd.prog 40 #[v] w fun e w' => e = .returned (.string ⟨(Lib.itoa n).toArray⟩) ∧ Below w.heap.size w w' := by
  by_cases h0 : n = 0
  · subst h0; exact refText_zero v w h
  · exact refText_any n v w h h0 (by have := limbs_int_le h1 h2; omega)

set_option maxHeartbeats 400000 in
set_option maxRecDepth 100000 in
/-- 'is', of an int and the document's number that says it. -/
theorem is_int (n : Int) (v : Value) (w : World) (h1 : -9223372036854775808 ≤ n) (h2 : n ≤ 9223372036854775807) (hr : RefAt w v n) (ht : Tab w) :
    Calls Tryd.prog 12 #[.agg #[.int .i64 n, .pointer none], v] w fun e w' => e = .returned (.bool true) ∧ Below w.heap.size w w' := by
  obtain ⟨s, rfl, hs⟩ := hr
  have hsc : s.cells = #[s] := by
    obtain ⟨pa, cs, rfl, hls⟩ := hs.form
    rfl
  obtain ⟨pa, cs, hsv, hls⟩ := hs.form
  have hb0 : Below w.heap.size w ((w.alloc (.cells #[.int .i64 n, .pointer none] 24)).alloc (.cells #[.bool (decide (n < 0)), s] 30)) := ((Below.refl _ _).alloc (Nat.le_refl _) _).alloc (by simp) _
  have HS : Both ((w.alloc (.cells #[.int .i64 n, .pointer none] 24)).alloc (.cells #[.bool (decide (n < 0)), s] 30)) w.heap.size n (decide (n < 0)) s n ((w.alloc (.cells #[.int .i64 n, .pointer none] 24)).alloc (.cells #[.bool (decide (n < 0)), s] 30)) :=
    ⟨by simp, by simp, by simp, by simp, ⟨_, rfl, hs.below hb0⟩, by simp, ht.below hb0 ht.2, Below.refl _ _⟩
  have HH : Hid _ := HS
  have HB : Hid _ := hb0
  clear hb0 HS hs hls hsc
  subst hsv
  go_enter Tryd.func12, Tryd.ntmps12
  go_wp2_with fail
  refine (small_int n _).mono ?_
  rintro e w1 ⟨rfl, hb1⟩
  have HS1 := Both.next HH.out hb1
  have HBW := HB.out
  generalize (w.alloc (.cells #[.int .i64 n, .pointer none] 24)).alloc (.cells #[.bool (decide (n < 0)), .slice pa (limbs n.natAbs).length cs] 30) = W at *
  clear HH HB
  have HH1 : Hid _ := HS1
  obtain ⟨a1, a2, a3, a4, _, _, _, _⟩ := HS1
  go_wp2_with fail
  refine (refSmall_in n _ _ (Both.ref HH1.out) h1 h2).mono ?_
  rintro e w2 ⟨rfl, hb2⟩
  have HS2 : Both W w.heap.size n (decide (n < 0)) (.slice pa (limbs n.natAbs).length cs) n w2 := Both.next HH1.out hb2
  clear HH1 a1 a2 a3 a4 hb1 hb2 ht
  have HS3 : Both W w.heap.size n (decide (n < 0)) (.slice pa (limbs n.natAbs).length cs) n w2.drew := HS2.next (Below.refl _ _).drew
  go_wp2
  go_region_held3 (fun w' => w'.cell? ⟨w.heap.size, 0, none⟩ = some (.int .i64 n) ∧ w'.cell? ⟨w.heap.size, 1, none⟩ = some (.pointer none) ∧ w'.cell? ⟨w.heap.size + 1, 0, none⟩ = some (.bool (decide (n < 0))) ∧ w'.cell? ⟨w.heap.size + 1, 1, none⟩ = some (.slice pa (limbs n.natAbs).length cs) ∧
      RefAt w' (.agg #[.bool (decide (n < 0)), .slice pa (limbs n.natAbs).length cs]) n ∧ w.heap.size + 1 < w'.heap.size ∧ Tab w' ∧ Below W.heap.size W w')
    (first | exact HS3 | (refine Both.next (by assumption) (by assumption)))
    (first
      | (go_at_call 16; refine (text_int n _ h1 h2 (Both.tab (by assumption))).mono ?_; rintro e w' ⟨rfl, hb⟩)
      | (go_at_call 40; refine (refText_int n _ _ h1 h2 (Both.ref (by assumption))).mono ?_; rintro e w' ⟨rfl, hb⟩)
      | (go_at_call 17; refine (sign_int n _).mono ?_; rintro e w' ⟨rfl, hb⟩)
      | (go_at_call 41; refine (refSign_any n _ _ (Both.ref (by assumption))).mono ?_; rintro e w' ⟨rfl, hb⟩))
  rename_i hHeld
  have hfin : Below w.heap.size w w' := HBW.trans (Below.mono hHeld.2.2.2.2.2.2.2 HBW.size)
  go_wp2
  go_ret
  exact ⟨rfl, hfin⟩

end Go.Proofs.YtangepgiamhenaaDoor
