/-
  The document's numbers: Sub.
-/
import Derived.Test.YtangepgiamhenaaDoorRefDiv
namespace Go.Proofs.YtangepgiamhenaaDoor
open Go.RowKit
open Bn (limbs)

set_option maxRecDepth 100000 in
set_option maxHeartbeats 2000000 in
/-- Sub. -/
theorem refSub_any (x y : Int) (va vb : Value) (w : World) (ha : RefAt w va x) (hb : RefAt w vb y) (hx : (limbs x.natAbs).length ≤ 1000000) (hy : (limbs y.natAbs).length ≤ 1000000) :
    Calls Tryd.prog 26 #[va, vb] w fun e w' => ∃ r, e = .returned r ∧ RefAt w' r (x - y) ∧ Below w.heap.size w w' := by
  have HA : Hid (RefAt w va x) := ha
  have HB : Hid (RefAt w vb y) := hb
  obtain ⟨d1, p1, l1, c1, rfl⟩ := ha.shape
  obtain ⟨d2, p2, l2, c2, rfl⟩ := hb.shape
  clear ha hb
  go_enter Tryd.func26, Tryd.ntmps26
  go_wp2_with fail
  generalize hW : ((w.alloc (.cells #[.bool d1, .slice p1 l1 c1] 30)).alloc (.cells #[.bool d2, .slice p2 l2 c2] 30)).alloc (.cells #[.bool false, .slice none 0 0] 30) = W
  obtain ⟨hA, hB, hR, hBW, hsz⟩ := three_objs w _ _ _ hW
  clear hW
  have HOp : Hid (∀ w', Below W.heap.size W w' → Calls Tryd.prog 23 #[.agg #[.bool d2, .slice p2 l2 c2]] w' fun e w'' => ∃ r, e = .returned r ∧ RefAt w'' r (-y) ∧ Below w'.heap.size w' w'') := fun w' h => opposite_any y _ w' ((HB.out.below hBW).below h)
  have HAd : Hid (∀ w' v, Below W.heap.size W w' → RefAt w' v (-y) → Calls Tryd.prog 24 #[.agg #[.bool d1, .slice p1 l1 c1], v] w' fun e w'' => ∃ r, e = .returned r ∧ RefAt w'' r (x - y) ∧ Below w'.heap.size w' w'') := fun w' v h hv => by
    have := refAdd_any x (-y) _ _ w' ((HA.out.below hBW).below h) hv hx (by rw [Int.natAbs_neg]; exact hy)
    rw [← Int.sub_eq_add_neg] at this; exact this
  obtain ⟨a0, a1, _, _⟩ := rbox_facts hA
  obtain ⟨b0, b1, _, _⟩ := rbox_facts hB
  go_region_with (first
    | (go_at_call 23; refine calls_at (HOp.out _ (Below.refl _ _).drew) (by with_reducible rfl) (by with_reducible rfl) ?_; rintro e w1 ⟨vo, rfl, hro, hb1⟩; obtain ⟨bo, po, no, co, hvo⟩ := hro.shape; subst hvo; obtain ⟨g0, g1, _, _⟩ := rbox_facts ((hb1.block w.heap.size (by show w.heap.size < W.heap.size; omega)).trans hA); have hbw1 : Below W.heap.size W w1 := (Below.refl W.heap.size W).drew.trans hb1)
    | (go_at_call 24; refine calls_at (HAd.out w1 _ hbw1 hro) (by with_reducible rfl) (by with_reducible rfl) ?_; rintro e w2 ⟨r, rfl, hr, hb2⟩; obtain ⟨d5, p5, l5, c5, hv5⟩ := hr.shape; subst hv5; have hbw2 : Below W.heap.size W w2 := hbw1.trans (hb2.mono hbw1.size); have hR2 := (hbw2.block (w.heap.size + 1 + 1) (by omega)).trans hR; obtain ⟨r0, r1, r2, r3⟩ := rbox_facts hR2))
  all_goals
    obtain ⟨m0, m1⟩ := rbox_set hR2 (.bool d5) (.slice p5 l5 c5)
    have hfin : Below w.heap.size w w2 := hBW.trans (hbw2.mono hBW.size)
    go_wp2
    exact bodyPost_ret (v := .agg #[.bool d5, .slice p5 l5 c5]) (by simp [results, Tryd.results26, go_sem, m0, m1]) rfl ⟨_, rfl, hr.setBox hR2 _ _, (hfin.setCell (p := ⟨w.heap.size + 1 + 1, 0, none⟩) (by show w.heap.size ≤ w.heap.size + 1 + 1; omega) _).setCell (p := ⟨w.heap.size + 1 + 1, 1, none⟩) (by show w.heap.size ≤ w.heap.size + 1 + 1; omega) _⟩
end Go.Proofs.YtangepgiamhenaaDoor
