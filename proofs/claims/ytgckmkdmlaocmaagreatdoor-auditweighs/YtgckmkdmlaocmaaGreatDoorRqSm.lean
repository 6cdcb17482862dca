/-
  The document's Small of any number.
-/
import Derived.Test.YtgckmkdmlaocmaaGreatDoorRefSmall
import Derived.Test.YtgckmkdmlaocmaaGreatDoorBgSs
namespace Go.Proofs.YtgckmkdmlaocmaaGreatDoor
open Go.RowKit
open Bn (limbs)
set_option maxHeartbeats 400000 in
set_option maxRecDepth 100000 in
theorem refSmall_out (z : Int) (v : Value) (w : World) (h : RefAt w v z) (hf : ¬ Fits z) :
    Calls Tryz.prog 86 #[v] w fun e w' => e = .returned (.tuple #[.int .i64 0, .bool false]) ∧ Below w.heap.size w w' := by
  obtain ⟨s, rfl, hs⟩ := h
  obtain ⟨pa, cs, rfl, hls⟩ := hs.form
  unfold maxLen at hls
  have hb0 : Below w.heap.size w (w.alloc (.cells #[.bool (decide (z < 0)), .slice pa (limbs z.natAbs).length cs] 105)) := (Below.refl _ _).alloc (Nat.le_refl _) _
  have HR : RefAt (w.alloc (.cells #[.bool (decide (z < 0)), .slice pa (limbs z.natAbs).length cs] 105)) (.agg #[.bool (decide (z < 0)), .slice pa (limbs z.natAbs).length cs]) z := ⟨_, rfl, hs.below hb0⟩
  have hcase : 9223372036854775807 < z ∨ z < -9223372036854775808 := by
    unfold Fits at hf; omega
  go_enter Tryz.func86, Tryz.ntmps86
  go_wp2
  generalize hW : w.alloc (.cells #[.bool (decide (z < 0)), .slice pa (limbs z.natAbs).length cs] 105) = W at *
  have hN : W.heap.size = w.heap.size + 1 := by rw [← hW]; simp
  have c0 : W.cell? ⟨w.heap.size, 0, none⟩ = some (.bool (decide (z < 0))) := by rw [← hW]; simp
  have c1 : W.cell? ⟨w.heap.size, 1, none⟩ = some (.slice pa (limbs z.natAbs).length cs) := by rw [← hW]; simp
  generalize hd : decide (z < 0) = d at *
  have hbW : Below w.heap.size w W := hb0
  have hS : Boxed W w.heap.size d (.slice pa (limbs z.natAbs).length cs) z W.drew := ⟨c0, c1, HR.below (Below.refl _ _).drew, by show _ < W.heap.size; omega, (Below.refl _ _).drew⟩
  clear hW hd hb0 hs hf
  rcases hcase with hc | hc
  · have hc1' : decide (0 < cmpI z 9223372036854775807) = true := by rw [cmpI_gt hc]; rfl
    clear hc
    go_region_with (first
      | (go_at_call 85; refine (refOf_any 9223372036854775807 W.drew (by decide) (by decide)).mono ?_; rintro e w1 ⟨v, rfl, hr, hb⟩; obtain ⟨d0, d1, dr, dn, db⟩ := Boxed.next hS hb)
      | (go_at_call 84; refine (refCmp_any z _ _ _ _ dr hr).mono ?_; rintro e w' ⟨rfl, hb2⟩; obtain ⟨d0', d1', dr', dn', db'⟩ := Boxed.next ⟨d0, d1, dr, dn, db⟩ hb2))
    all_goals
      have hfin : Below w.heap.size w w' := hbW.trans (Below.mono db' hbW.size)
      go_wp2
      go_ret2
      exact ⟨rfl, hfin⟩
  · have hc1' : decide (0 < cmpI z 9223372036854775807) = false := by rw [cmpI_lt (by omega)]; rfl
    have hc2' : decide (cmpI z (-9223372036854775808) < 0) = true := by rw [cmpI_lt hc]; rfl
    clear hc
    go_region_held3 (fun w' => w'.cell? ⟨w.heap.size, 0, none⟩ = some (.bool d) ∧ w'.cell? ⟨w.heap.size, 1, none⟩ = some (.slice pa (limbs z.natAbs).length cs) ∧ RefAt w' (.agg #[.bool d, .slice pa (limbs z.natAbs).length cs]) z ∧ w.heap.size < w'.heap.size ∧ Below W.heap.size W w')
      (first | exact hS | (refine Boxed.next (by assumption) (by assumption)))
      (first
        | (go_at_call 85; refine (refOf_any _ _ (by decide) (by decide)).mono ?_; rintro e w' ⟨v, rfl, hr, hb⟩)
        | (go_at_call 84; refine (refCmp_any z _ _ _ _ (Boxed.ref (by assumption)) (by assumption)).mono ?_; rintro e w' ⟨rfl, hb⟩))
    rename_i hHeld
    have hfin : Below w.heap.size w w' := hbW.trans (Below.mono hHeld.2.2.2.2 hbW.size)
    go_wp2
    go_ret2
    exact ⟨rfl, hfin⟩

theorem refSmall_big (z : Int) (v : Value) (w : World) (h : RefAt w v z) :
    Calls Tryz.prog 86 #[v] w fun e w' => e = .returned (.tuple #[.int .i64 (smallV z), .bool (smallB z)]) ∧ Below w.heap.size w w' := by
  by_cases hf : Fits z
  · have e2 : smallB z = true := smallB_yes hf
    have e1 : smallV z = z := by unfold smallV; rw [if_pos e2]
    rw [e1, e2]; exact refSmall_in z v w h hf.1 hf.2
  · have e2 : smallB z = false := smallB_no hf
    have e1 : smallV z = 0 := by unfold smallV; rw [if_neg (by rw [e2]; simp)]
    rw [e1, e2]; exact refSmall_out z v w h hf

end Go.Proofs.YtgckmkdmlaocmaaGreatDoor
