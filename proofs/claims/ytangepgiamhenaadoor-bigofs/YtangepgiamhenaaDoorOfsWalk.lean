/-
  BigOfs: the walk.
-/
import Derived.Test.YtangepgiamhenaaDoorIs
namespace Go.Proofs.YtangepgiamhenaaDoor
open Go.RowKit
open Bn (limbs)
attribute [local go_sem ↓] Go.wp_at_zero Go.wp_at_succ

/-- What stays of the two variables of BigOfs. -/
def Vars (W : World) (N M : Nat) (n : Int) (w' : World) : Prop :=
  w'.cell? ⟨N, 0, none⟩ = some (.int .i64 0) ∧ w'.cell? ⟨N, 1, none⟩ = some (.pointer none) ∧ w'.cell? ⟨M, 0, none⟩ = some (.int .i64 n) ∧ w'.cell? ⟨M, 1, none⟩ = some (.pointer none) ∧
  N < w'.heap.size ∧ M < w'.heap.size ∧ Tab w' ∧ Below W.heap.size W w'

theorem Vars.next {W : World} {N M : Nat} {n : Int} {w1 w2 : World} (h : Vars W N M n w1) (hb : Below w1.heap.size w1 w2) : Vars W N M n w2 := by
  obtain ⟨h1, h2, h3, h4, h5, h6, h7, h8⟩ := h
  exact ⟨(hb.cell (p := ⟨N, 0, none⟩) h5).trans h1, (hb.cell (p := ⟨N, 1, none⟩) h5).trans h2, (hb.cell (p := ⟨M, 0, none⟩) h6).trans h3, (hb.cell (p := ⟨M, 1, none⟩) h6).trans h4,
    Nat.lt_of_lt_of_le h5 hb.size, Nat.lt_of_lt_of_le h6 hb.size, h7.below hb h7.2, h8.trans (hb.mono h8.size)⟩
theorem Vars.tab {W : World} {N M : Nat} {n : Int} {w1 : World} (h : Vars W N M n w1) : Tab w1 := h.2.2.2.2.2.2.1

theorem cmpI_self (a : Int) : cmpI a a = 0 := cmpI_eq (Int.le_refl a) (Int.le_refl a)

theorem cmp_same (a : Int) (w : World) :
    Calls Tryd.prog 18 #[.agg #[.int .i64 a, .pointer none], .agg #[.int .i64 a, .pointer none]] w fun e w' => e = .returned (.int .i64 0) ∧ Below w.heap.size w w' :=
  (cmp_int a a w).mono fun _ _ h => ⟨h.1.trans (ret_int (cmpI_self a)), h.2⟩
theorem text_zero (w : World) (ht : Tab w) :
    Calls Tryd.prog 16 #[.agg #[.int .i64 0, .pointer none]] w fun e w' => e = .returned (.string ⟨#[48]⟩) ∧ Below w.heap.size w w' :=
  (text_int 0 w (by decide) (by decide) ht).mono fun _ _ h => ⟨h.1.trans (ret_string (by rw [Bn.itoa_zero])), h.2⟩
theorem sign_zero (w : World) :
    Calls Tryd.prog 17 #[.agg #[.int .i64 0, .pointer none]] w fun e w' => e = .returned (.int .i64 0) ∧ Below w.heap.size w w' := sign_int 0 w

set_option maxHeartbeats 1000000 in
set_option maxRecDepth 100000 in
theorem bigOfs_walk (n : Int) (w : World) (h1 : -9223372036854775808 ≤ n) (h2 : n ≤ 9223372036854775807) (ht : Tab w) :
    Calls Tryd.prog 4 #[.int .i64 n] w fun e w' => e = .returned (.bool true) ∧ Below w.heap.size w w' := by
  have hb0 : Below w.heap.size w (w.alloc (.cells #[.int .i64 0, .pointer none] 24)) := (Below.refl _ _).alloc (Nat.le_refl _) _
  have HB0 : Hid _ := hb0
  have HT : Hid (Tab w) := ht
  clear hb0 ht
  go_enter Tryd.func4, Tryd.ntmps4
  go_wp2_with fail
  refine (of_any n _).mono ?_
  rintro e w1 ⟨rfl, hb1⟩
  have c0 : w1.cell? ⟨w.heap.size, 0, none⟩ = some (.int .i64 0) := (hb1.cell (p := ⟨w.heap.size, 0, none⟩) (by simp)).trans (by simp)
  have c1 : w1.cell? ⟨w.heap.size, 1, none⟩ = some (.pointer none) := (hb1.cell (p := ⟨w.heap.size, 1, none⟩) (by simp)).trans (by simp)
  have hsz : w.heap.size + 1 ≤ w1.heap.size := by have := hb1.size; simpa using this
  have HB1 : Hid (Below w.heap.size w w1) := HB0.out.trans (hb1.mono (by simp))
  clear hb1 HB0
  go_wp2_with fail
  have hbW : Below w.heap.size w (w1.alloc (.cells #[.int .i64 n, .pointer none] 24)) := HB1.out.alloc (by omega) _
  have HV : Vars (w1.alloc (.cells #[.int .i64 n, .pointer none] 24)) w.heap.size w1.heap.size n (w1.alloc (.cells #[.int .i64 n, .pointer none] 24)) := by
    refine ⟨?_, ?_, by simp, by simp, by simp; omega, by simp, HT.out.below hbW HT.out.2, Below.refl _ _⟩
    · rw [World.cell?_alloc_past _ _ _ (by omega)]; exact c0
    · rw [World.cell?_alloc_past _ _ _ (by omega)]; exact c1
  generalize w1.alloc (.cells #[.int .i64 n, .pointer none] 24) = W at *
  generalize w1.heap.size = M at *
  refine (small_int n _).mono ?_
  rintro e w2 ⟨rfl, hb2⟩
  have HS2 := HV.next hb2
  have HS3 : Vars W w.heap.size M n w2.drew := HS2.next (Below.refl _ _).drew
  clear c0 c1 hb2 HB1 HT HV HS2 hsz
  go_wp2
  go_region_held3 (fun w' => w'.cell? ⟨w.heap.size, 0, none⟩ = some (.int .i64 0) ∧ w'.cell? ⟨w.heap.size, 1, none⟩ = some (.pointer none) ∧ w'.cell? ⟨M, 0, none⟩ = some (.int .i64 n) ∧ w'.cell? ⟨M, 1, none⟩ = some (.pointer none) ∧
      w.heap.size < w'.heap.size ∧ M < w'.heap.size ∧ Tab w' ∧ Below W.heap.size W w')
    (first | exact HS3 | (refine Vars.next (by assumption) (by assumption)))
    (first
      | (go_at_call 15; refine (refOf_any n _ h1 h2).mono ?_; rintro e w' ⟨v, rfl, hr, hb⟩)
      | (go_at_call 12; refine (is_int n _ _ h1 h2 (by assumption) (Vars.tab (by assumption))).mono ?_; rintro e w' ⟨rfl, hb⟩)
      | (go_at_call 16; refine (text_zero _ (Vars.tab (by assumption))).mono ?_; rintro e w' ⟨rfl, hb⟩)
      | (go_at_call 17; refine (sign_zero _).mono ?_; rintro e w' ⟨rfl, hb⟩)
      | (go_at_call 13; refine (of_any 0 _).mono ?_; rintro e w' ⟨rfl, hb⟩)
      | (go_at_call 18; refine (cmp_same _ _).mono ?_; rintro e w' ⟨rfl, hb⟩)
      | (go_at_call 19; refine (add_zero_int n _ h1 h2).mono ?_; rintro e w' ⟨rfl, hb⟩))
  rename_i hHeld
  have hfin : Below w.heap.size w w' := hbW.trans (Below.mono hHeld.2.2.2.2.2.2.2 hbW.size)
  go_wp2
  go_ret
  exact ⟨rfl, hfin⟩

end Go.Proofs.YtangepgiamhenaaDoor
