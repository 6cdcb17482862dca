/-
  'is', of a program's number and the document's.
-/
import Derived.Test.YtangepgiamhenaaDoorTextWide
import Derived.Test.YtangepgiamhenaaDoorRefTwo
import Derived.Deep.RegionWith
namespace Go.Proofs.YtangepgiamhenaaDoor
open Go.RowKit
open Bn (limbs)
attribute [local go_sem ↓] Go.wp_at_zero Go.wp_at_succ

/-- What Small answers. -/
def smallB (z : Int) : Bool := decide (-9223372036854775808 ≤ z ∧ z ≤ 9223372036854775807)
def smallV (z : Int) : Int := if smallB z = true then z else 0
theorem smallB_yes {z : Int} (h : Fits z) : smallB z = true := decide_eq_true h
theorem smallB_no {z : Int} (h : ¬ Fits z) : smallB z = false := decide_eq_false h

set_option maxHeartbeats 400000 in
theorem negative_big (z : Int) (v : Value) (w : World) (h : BigAt w v z) :
    Calls Tryd.prog 46 #[v] w fun e w' => e = .returned (.bool (decide (z < 0))) ∧ Below w.heap.size w w' := by
  rcases h with ⟨_, rfl⟩ | ⟨_, p, s, rfl, hp, h0, h1, hU⟩
  · exact negative_int z w
  · have h0' : (w.alloc (.cells #[.int .i64 0, .pointer (some ⟨p, 0, none⟩)] 24)).cell? ⟨p, 0, none⟩ = some (.bool (decide (z < 0))) := (World.cell?_alloc_past _ _ _ hp).trans h0
    generalize decide (z < 0) = d at *
    go_enter Tryd.func46, Tryd.ntmps46
    go_wp2
    go_ret
    exact ⟨rfl, (Below.refl _ _).alloc (Nat.le_refl _) _⟩

set_option maxHeartbeats 400000 in
theorem small_big (z : Int) (v : Value) (w : World) (h : BigAt w v z) :
    Calls Tryd.prog 14 #[v] w fun e w' => e = .returned (.tuple #[.int .i64 (smallV z), .bool (smallB z)]) ∧ Below w.heap.size w w' := by
  rcases h with ⟨hf, rfl⟩ | ⟨hf, p, s, rfl, hp, h0, h1, hU⟩
  · have e2 : smallB z = true := smallB_yes hf
    have e1 : smallV z = z := by unfold smallV; rw [if_pos e2]
    rw [e1, e2]; exact small_int z w
  · have e2 : smallB z = false := smallB_no hf
    have e1 : smallV z = 0 := by unfold smallV; rw [if_neg (by rw [e2]; simp)]
    rw [e1, e2]
    go_enter Tryd.func14, Tryd.ntmps14
    go_wp2
    go_ret2
    exact ⟨rfl, (Below.refl _ _).alloc (Nat.le_refl _) _⟩

set_option maxHeartbeats 400000 in
theorem sign_big (z : Int) (v : Value) (w : World) (h : BigAt w v z) :
    Calls Tryd.prog 17 #[v] w fun e w' => e = .returned (.int .i64 z.sign) ∧ Below w.heap.size w w' := by
  rcases h with ⟨_, rfl⟩ | h
  · exact sign_int z w
  · have hz : z ≠ 0 := by rintro rfl; exact h.1 (by unfold Fits; omega)
    obtain ⟨hf, p, s, rfl, hp, h0, h1, hU⟩ := h
    have hb0 : Below w.heap.size w (w.alloc (.cells #[.int .i64 0, .pointer (some ⟨p, 0, none⟩)] 24)) := (Below.refl _ _).alloc (Nat.le_refl _) _
    have HB : Hid (BigAt (w.alloc (.cells #[.int .i64 0, .pointer (some ⟨p, 0, none⟩)] 24)) (.agg #[.int .i64 0, .pointer (some ⟨p, 0, none⟩)]) z) := BigAt.below (.inr ⟨hf, p, s, rfl, hp, h0, h1, hU⟩) hb0
    rcases Int.lt_or_gt_of_ne hz with hn | hn
    · have hd : decide (z < 0) = true := by simpa using hn
      clear hf h0 h1 hU
      go_enter Tryd.func17, Tryd.ntmps17
      go_wp2_with (go_at_call 46; refine (negative_big z _ _ HB.out).mono ?_; rintro e w' ⟨rfl, hb⟩; rw [hd])
      go_ret
      exact ⟨ret_int (Int.sign_eq_neg_one_of_neg hn).symm, hb0.trans (hb.mono (by simp))⟩
    · have hd : decide (z < 0) = false := by simp; omega
      clear hf h0 h1 hU
      go_enter Tryd.func17, Tryd.ntmps17
      go_wp2_with (go_at_call 46; refine (negative_big z _ _ HB.out).mono ?_; rintro e w' ⟨rfl, hb⟩; rw [hd]; obtain ⟨hc, hf⟩ := bcell hb)
      go_ret
      exact ⟨ret_int (Int.sign_eq_one_of_pos hn).symm, hb0.trans (hb.mono (by simp))⟩

theorem text_big (z : Int) (v : Value) (w : World) (h : BigAt w v z) (hlen : (limbs z.natAbs).length ≤ 1000000) (ht : Tab w) :
    Calls Tryd.prog 16 #[v] w fun e w' => e = .returned (.string ⟨(Lib.itoa z).toArray⟩) ∧ Below w.heap.size w w' := by
  by_cases hf : Fits z
  · rcases h with ⟨_, rfl⟩ | ⟨h, _⟩
    · exact text_int z w hf.1 hf.2 ht
    · exact absurd hf h
  · exact text_wide z v w h hf hlen ht

theorem refText_big (z : Int) (v : Value) (w : World) (h : RefAt w v z) (hlen : (limbs z.natAbs).length ≤ 1000000) :
    Calls Tryd.prog 40 #[v] w fun e w' => e = .returned (.string ⟨(Lib.itoa z).toArray⟩) ∧ Below w.heap.size w w' := by
  by_cases h0 : z = 0
  · subst h0; exact refText_zero v w h
  · exact refText_any z v w h h0 hlen

set_option maxHeartbeats 400000 in
set_option maxRecDepth 100000 in
theorem refSmall_out (z : Int) (v : Value) (w : World) (h : RefAt w v z) (hf : ¬ Fits z) :
    Calls Tryd.prog 39 #[v] w fun e w' => e = .returned (.tuple #[.int .i64 0, .bool false]) ∧ Below w.heap.size w w' := by
  obtain ⟨s, rfl, hs⟩ := h
  obtain ⟨pa, cs, rfl, hls⟩ := hs.form
  unfold maxLen at hls
  have hb0 : Below w.heap.size w (w.alloc (.cells #[.bool (decide (z < 0)), .slice pa (limbs z.natAbs).length cs] 30)) := (Below.refl _ _).alloc (Nat.le_refl _) _
  have HR : RefAt (w.alloc (.cells #[.bool (decide (z < 0)), .slice pa (limbs z.natAbs).length cs] 30)) (.agg #[.bool (decide (z < 0)), .slice pa (limbs z.natAbs).length cs]) z := ⟨_, rfl, hs.below hb0⟩
  have hcase : 9223372036854775807 < z ∨ z < -9223372036854775808 := by
    unfold Fits at hf; omega
  go_enter Tryd.func39, Tryd.ntmps39
  go_wp2
  generalize hW : w.alloc (.cells #[.bool (decide (z < 0)), .slice pa (limbs z.natAbs).length cs] 30) = W at *
  have hN : W.heap.size = w.heap.size + 1 := by rw [← hW]; simp
  have c0 : W.cell? ⟨w.heap.size, 0, none⟩ = some (.bool (decide (z < 0))) := by rw [← hW]; simp
  have c1 : W.cell? ⟨w.heap.size, 1, none⟩ = some (.slice pa (limbs z.natAbs).length cs) := by rw [← hW]; simp
  generalize hd : decide (z < 0) = d at *
  have hbW : Below w.heap.size w W := hb0
  have hS : Boxed W w.heap.size d (.slice pa (limbs z.natAbs).length cs) z W.drew := ⟨c0, c1, HR.below (Below.refl _ _).drew, by show _ < W.heap.size; omega, (Below.refl _ _).drew⟩
  clear hW hd hb0 hs hf
  rcases hcase with hc | hc
  · have hc1' : decide (0 < cmpI z 9223372036854775807) = true := by rw [cmpI_gt hc]; rfl
    clear hc
    go_region_with (first
      | (go_at_call 15; refine (refOf_any 9223372036854775807 W.drew (by decide) (by decide)).mono ?_; rintro e w1 ⟨v, rfl, hr, hb⟩; obtain ⟨d0, d1, dr, dn, db⟩ := Boxed.next hS hb)
      | (go_at_call 52; refine (refCmp_any z _ _ _ _ dr hr).mono ?_; rintro e w' ⟨rfl, hb2⟩; obtain ⟨d0', d1', dr', dn', db'⟩ := Boxed.next ⟨d0, d1, dr, dn, db⟩ hb2))
    all_goals
      have hfin : Below w.heap.size w w' := hbW.trans (Below.mono db' hbW.size)
      go_wp2
      go_ret2
      exact ⟨rfl, hfin⟩
  · have hc1' : decide (0 < cmpI z 9223372036854775807) = false := by rw [cmpI_lt (by omega)]; rfl
    have hc2' : decide (cmpI z (-9223372036854775808) < 0) = true := by rw [cmpI_lt hc]; rfl
    clear hc
    go_region_held3 (fun w' => w'.cell? ⟨w.heap.size, 0, none⟩ = some (.bool d) ∧ w'.cell? ⟨w.heap.size, 1, none⟩ = some (.slice pa (limbs z.natAbs).length cs) ∧ RefAt w' (.agg #[.bool d, .slice pa (limbs z.natAbs).length cs]) z ∧ w.heap.size < w'.heap.size ∧ Below W.heap.size W w')
      (first | exact hS | (refine Boxed.next (by assumption) (by assumption)))
      (first
        | (go_at_call 15; refine (refOf_any _ _ (by decide) (by decide)).mono ?_; rintro e w' ⟨v, rfl, hr, hb⟩)
        | (go_at_call 52; refine (refCmp_any z _ _ _ _ (Boxed.ref (by assumption)) (by assumption)).mono ?_; rintro e w' ⟨rfl, hb⟩))
    rename_i hHeld
    have hfin : Below w.heap.size w w' := hbW.trans (Below.mono hHeld.2.2.2.2 hbW.size)
    go_wp2
    go_ret2
    exact ⟨rfl, hfin⟩

theorem refSmall_big (z : Int) (v : Value) (w : World) (h : RefAt w v z) :
    Calls Tryd.prog 39 #[v] w fun e w' => e = .returned (.tuple #[.int .i64 (smallV z), .bool (smallB z)]) ∧ Below w.heap.size w w' := by
  by_cases hf : Fits z
  · have e2 : smallB z = true := smallB_yes hf
    have e1 : smallV z = z := by unfold smallV; rw [if_pos e2]
    rw [e1, e2]; exact refSmall_in z v w h hf.1 hf.2
  · have e2 : smallB z = false := smallB_no hf
    have e1 : smallV z = 0 := by unfold smallV; rw [if_neg (by rw [e2]; simp)]
    rw [e1, e2]; exact refSmall_out z v w h hf

/-- What stays of the two numbers that 'is' has boxed. -/
def BothB (W : World) (N : Nat) (y : Int) (q : Option Addr) (d : Bool) (s : Value) (z : Int) (w' : World) : Prop :=
  w'.cell? ⟨N, 0, none⟩ = some (.int .i64 y) ∧ w'.cell? ⟨N, 1, none⟩ = some (.pointer q) ∧ w'.cell? ⟨N + 1, 0, none⟩ = some (.bool d) ∧ w'.cell? ⟨N + 1, 1, none⟩ = some s ∧
  RefAt w' (.agg #[.bool d, s]) z ∧ BigAt w' (.agg #[.int .i64 y, .pointer q]) z ∧ N + 1 < w'.heap.size ∧ Tab w' ∧ Below W.heap.size W w'

theorem BothB.next {W : World} {N : Nat} {y : Int} {q : Option Addr} {d : Bool} {s : Value} {z : Int} {w1 w2 : World} (h : BothB W N y q d s z w1) (hb : Below w1.heap.size w1 w2) : BothB W N y q d s z w2 := by
  obtain ⟨h1, h2, h3, h4, h5, h5', h6, h7, h8⟩ := h
  exact ⟨(hb.cell (p := ⟨N, 0, none⟩) (by show N < _; omega)).trans h1, (hb.cell (p := ⟨N, 1, none⟩) (by show N < _; omega)).trans h2, (hb.cell (p := ⟨N + 1, 0, none⟩) h6).trans h3, (hb.cell (p := ⟨N + 1, 1, none⟩) h6).trans h4,
    h5.below hb, h5'.below hb, Nat.lt_of_lt_of_le h6 hb.size, h7.below hb h7.2, h8.trans (hb.mono h8.size)⟩
theorem BothB.ref {W : World} {N : Nat} {y : Int} {q : Option Addr} {d : Bool} {s : Value} {z : Int} {w1 : World} (h : BothB W N y q d s z w1) : RefAt w1 (.agg #[.bool d, s]) z := h.2.2.2.2.1
theorem BothB.big {W : World} {N : Nat} {y : Int} {q : Option Addr} {d : Bool} {s : Value} {z : Int} {w1 : World} (h : BothB W N y q d s z w1) : BigAt w1 (.agg #[.int .i64 y, .pointer q]) z := h.2.2.2.2.2.1
theorem BothB.tab {W : World} {N : Nat} {y : Int} {q : Option Addr} {d : Bool} {s : Value} {z : Int} {w1 : World} (h : BothB W N y q d s z w1) : Tab w1 := h.2.2.2.2.2.2.2.1

set_option maxHeartbeats 400000 in
set_option maxRecDepth 100000 in
/-- 'is', of two values that say one number. -/
theorem is_big (z : Int) (u v : Value) (w : World) (hu : BigAt w u z) (hr : RefAt w v z) (ht : Tab w) (hlen : (limbs z.natAbs).length ≤ 1000000) :
    Calls Tryd.prog 12 #[u, v] w fun e w' => e = .returned (.bool true) ∧ Below w.heap.size w w' := by
  obtain ⟨y, q, rfl⟩ := hu.shape
  obtain ⟨s, rfl, hs⟩ := hr
  obtain ⟨pa, cs, hsv, hls⟩ := hs.form
  have hb0 : Below w.heap.size w ((w.alloc (.cells #[.int .i64 y, .pointer q] 24)).alloc (.cells #[.bool (decide (z < 0)), s] 30)) := ((Below.refl _ _).alloc (Nat.le_refl _) _).alloc (by simp) _
  have HS : BothB ((w.alloc (.cells #[.int .i64 y, .pointer q] 24)).alloc (.cells #[.bool (decide (z < 0)), s] 30)) w.heap.size y q (decide (z < 0)) s z ((w.alloc (.cells #[.int .i64 y, .pointer q] 24)).alloc (.cells #[.bool (decide (z < 0)), s] 30)) :=
    ⟨by simp, by simp, by simp, by simp, ⟨_, rfl, hs.below hb0⟩, hu.below hb0, by simp, ht.below hb0 ht.2, Below.refl _ _⟩
  have HH : Hid (BothB ((w.alloc (.cells #[.int .i64 y, .pointer q] 24)).alloc (.cells #[.bool (decide (z < 0)), s] 30)) w.heap.size y q (decide (z < 0)) s z ((w.alloc (.cells #[.int .i64 y, .pointer q] 24)).alloc (.cells #[.bool (decide (z < 0)), s] 30))) := HS
  have HB : Hid (Below w.heap.size w ((w.alloc (.cells #[.int .i64 y, .pointer q] 24)).alloc (.cells #[.bool (decide (z < 0)), s] 30))) := hb0
  clear hb0 HS hs hls hu ht
  generalize decide (z < 0) = d at *
  subst hsv
  go_enter Tryd.func12, Tryd.ntmps12
  go_wp2_with fail
  refine (small_big z _ _ (BothB.big HH.out)).mono ?_
  rintro e w1 ⟨rfl, hb1⟩
  have HS1 := BothB.next HH.out hb1
  have HBW := HB.out
  generalize (w.alloc (.cells #[.int .i64 y, .pointer q] 24)).alloc (.cells #[.bool d, .slice pa (limbs z.natAbs).length cs] 30) = W at *
  clear HH HB
  have HH1 : Hid (BothB W w.heap.size y q d (.slice pa (limbs z.natAbs).length cs) z w1) := HS1
  obtain ⟨a1, a2, a3, a4, _⟩ := HS1
  have hRS := fun (w : World) (h : RefAt w (.agg #[.bool d, .slice pa (limbs z.natAbs).length cs]) z) => refSmall_big z _ w h
  have HRS : Hid (∀ w, RefAt w (.agg #[.bool d, .slice pa (limbs z.natAbs).length cs]) z → Calls Tryd.prog 39 #[.agg #[.bool d, .slice pa (limbs z.natAbs).length cs]] w fun e w' => e = .returned (.tuple #[.int .i64 (smallV z), .bool (smallB z)]) ∧ Below w.heap.size w w') := hRS
  clear hRS
  generalize smallV z = sv at *
  generalize smallB z = sb at *
  go_wp2_with fail
  refine (HRS.out _ (BothB.ref HH1.out)).mono ?_
  rintro e w2 ⟨rfl, hb2⟩
  have HS2 : BothB W w.heap.size y q d (.slice pa (limbs z.natAbs).length cs) z w2 := BothB.next HH1.out hb2
  clear HH1 HRS a1 a2 a3 a4 hb1 hb2
  have HS3 : BothB W w.heap.size y q d (.slice pa (limbs z.natAbs).length cs) z w2.drew := HS2.next (Below.refl _ _).drew
  go_wp2
  go_region_held3 (fun w' => w'.cell? ⟨w.heap.size, 0, none⟩ = some (.int .i64 y) ∧ w'.cell? ⟨w.heap.size, 1, none⟩ = some (.pointer q) ∧ w'.cell? ⟨w.heap.size + 1, 0, none⟩ = some (.bool d) ∧ w'.cell? ⟨w.heap.size + 1, 1, none⟩ = some (.slice pa (limbs z.natAbs).length cs) ∧
      RefAt w' (.agg #[.bool d, .slice pa (limbs z.natAbs).length cs]) z ∧ BigAt w' (.agg #[.int .i64 y, .pointer q]) z ∧ w.heap.size + 1 < w'.heap.size ∧ Tab w' ∧ Below W.heap.size W w')
    (first | exact HS3 | (refine BothB.next (by assumption) (by assumption)))
    (first
      | (go_at_call 16; refine (text_big z _ _ (BothB.big (by assumption)) hlen (BothB.tab (by assumption))).mono ?_; rintro e w' ⟨rfl, hb⟩)
      | (go_at_call 40; refine (refText_big z _ _ (BothB.ref (by assumption)) hlen).mono ?_; rintro e w' ⟨rfl, hb⟩)
      | (go_at_call 17; refine (sign_big z _ _ (BothB.big (by assumption))).mono ?_; rintro e w' ⟨rfl, hb⟩)
      | (go_at_call 41; refine (refSign_any z _ _ (BothB.ref (by assumption))).mono ?_; rintro e w' ⟨rfl, hb⟩))
  rename_i hHeld
  have hfin : Below w.heap.size w w' := HBW.trans (Below.mono hHeld.2.2.2.2.2.2.2.2 HBW.size)
  go_wp2
  go_ret
  exact ⟨rfl, hfin⟩

end Go.Proofs.YtangepgiamhenaaDoor
