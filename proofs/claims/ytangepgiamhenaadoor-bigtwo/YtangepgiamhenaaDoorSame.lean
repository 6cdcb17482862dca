/-
  same: two values that say one number.
-/
import Derived.Test.YtangepgiamhenaaDoorCmp
import Derived.Test.YtangepgiamhenaaDoorIsBig
import Derived.Test.YtangepgiamhenaaDoorDivUpInts
namespace Go.Proofs.YtangepgiamhenaaDoor
open Go.RowKit
open Bn (limbs)

theorem Two.rest {W : World} {N : Nat} {n1 n2 : Int} {q1 q2 : Option Addr} {w' : World} (h : Two W N n1 n2 q1 q2 w') : Below W.heap.size W w' := h.2.2.2.2.2

set_option maxRecDepth 100000 in
set_option maxHeartbeats 1000000 in
theorem same_big (z : Int) (va vb : Value) (w : World) (ha : BigAt w va z) (hb : BigAt w vb z) (ht : Tab w) (hlen : (limbs z.natAbs).length ≤ 1000000) :
    Calls Tryd.prog 33 #[va, vb] w fun e w' => e = .returned (.bool true) ∧ Below w.heap.size w w' := by
  have HA : Hid (BigAt w va z) := ha
  have HB : Hid (BigAt w vb z) := hb
  have HT : Hid (Tab w) := ht
  obtain ⟨n1, q1, rfl⟩ := ha.shape
  obtain ⟨n2, q2, rfl⟩ := hb.shape
  have hc0 : cmpI z z = 0 := cmpI_eq (Int.le_refl _) (Int.le_refl _)
  clear ha hb ht
  go_enter Tryd.func33, Tryd.ntmps33
  go_wp2_with fail
  generalize hW : (w.alloc (.cells #[.int .i64 n1, .pointer q1] 24)).alloc (.cells #[.int .i64 n2, .pointer q2] 24) = W
  obtain ⟨hA, hB, hBW, hsz⟩ := both_boxes w n1 n2 q1 q2 hW
  have HCm : Hid (∀ w', Below W.heap.size W w' → Calls Tryd.prog 18 #[.agg #[.int .i64 n1, .pointer q1], .agg #[.int .i64 n2, .pointer q2]] w' fun e w'' => e = .returned (.int .i64 0) ∧ Below w'.heap.size w' w'') :=
    fun w' h => by
      have := cmp_big z z _ _ w' ((HA.out.below hBW).below h) ((HB.out.below hBW).below h) hlen
      rw [hc0] at this; exact this
  have HTa : Hid (∀ w', Below W.heap.size W w' → Calls Tryd.prog 16 #[.agg #[.int .i64 n1, .pointer q1]] w' fun e w'' => e = .returned (.string ⟨(Lib.itoa z).toArray⟩) ∧ Below w'.heap.size w' w'') :=
    fun w' h => text_big z _ w' ((HA.out.below hBW).below h) hlen ((HT.out.below hBW HT.out.2).below h (HT.out.below hBW HT.out.2).2)
  have HTb : Hid (∀ w', Below W.heap.size W w' → Calls Tryd.prog 16 #[.agg #[.int .i64 n2, .pointer q2]] w' fun e w'' => e = .returned (.string ⟨(Lib.itoa z).toArray⟩) ∧ Below w'.heap.size w' w'') :=
    fun w' h => text_big z _ w' ((HB.out.below hBW).below h) hlen ((HT.out.below hBW HT.out.2).below h (HT.out.below hBW HT.out.2).2)
  obtain ⟨a0, a1, _, _⟩ := box_facts hA
  obtain ⟨b0, b1, _, _⟩ := box_facts hB
  have hS : Two W w.heap.size n1 n2 q1 q2 W.drew := Two.next ⟨a0, a1, b0, b1, by omega, Below.refl _ _⟩ (Below.refl _ _).drew
  generalize (⟨(Lib.itoa z).toArray⟩ : ByteArray) = tx at *
  clear hW hc0 HA HB HT
  go_region_held3 (fun w' => w'.cell? ⟨w.heap.size, 0, none⟩ = some (.int .i64 n1) ∧ w'.cell? ⟨w.heap.size, 1, none⟩ = some (.pointer q1) ∧ w'.cell? ⟨w.heap.size + 1, 0, none⟩ = some (.int .i64 n2) ∧ w'.cell? ⟨w.heap.size + 1, 1, none⟩ = some (.pointer q2) ∧ w.heap.size + 1 < w'.heap.size ∧ Below W.heap.size W w')
    (first | exact hS | (refine Two.next (by assumption) (by assumption)))
    (first
      | (go_at_call 18; refine calls_at (HCm.out _ (Two.rest (by assumption))) (by with_reducible rfl) (by with_reducible rfl) ?_; rintro e w' ⟨rfl, hb⟩)
      | (go_at_call 16; refine calls_at (HTa.out _ (Two.rest (by assumption))) (by with_reducible rfl) (by with_reducible rfl) ?_; rintro e w' ⟨rfl, hb⟩)
      | (go_at_call 16; refine calls_at (HTb.out _ (Two.rest (by assumption))) (by with_reducible rfl) (by with_reducible rfl) ?_; rintro e w' ⟨rfl, hb⟩))
  rename_i hHeld
  have hfin : Below w.heap.size w w' := hBW.trans (hHeld.2.2.2.2.2.mono hBW.size)
  go_wp2
  go_ret
  exact ⟨rfl, hfin⟩
end Go.Proofs.YtangepgiamhenaaDoor
