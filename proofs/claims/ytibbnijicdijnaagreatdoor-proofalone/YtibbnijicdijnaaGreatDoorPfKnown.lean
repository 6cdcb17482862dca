/-
  Package proof: known.
-/
import Derived.Test.YtibbnijicdijnaaGreatDoorJ43
namespace Go.Proofs.YtibbnijicdijnaaGreatDoor
open Go.RowKit

theorem Gl.to {B : Nat} {w w' : World} (h : Gl w) (k : Below B w w') (hB : 12 ≤ B) : Gl w' := h.below k hB

set_option maxRecDepth 20000 in
set_option maxHeartbeats 4000000 in
theorem known_any (w : World) (hg : Gl w) (hB : 12 ≤ w.heap.size) : Calls Tryz.prog 7 #[] w fun e w' => e = .returned (.bool true) ∧ Below w.heap.size w w' := by
  have H0 : Hid (∀ w', Below w.heap.size w w' → Calls Tryz.prog 18 #[.string ⟨#[112, 111, 108, 32, 51, 32, 52, 32, 43, 32, 50, 32, 100, 32, 120, 53, 32, 119, 32, 115, 32, 126, 120, 49, 32, 51, 32, 42, 32, 43]⟩] w' fun e w2 => ∃ oa0 oc0 pa0 pc0 la0 lc0 ia0 ic0, e = .returned (.tuple #[.agg #[.int .i64 3, .string ⟨#[]⟩, .slice oa0 9 oc0, .slice pa0 0 pc0, .string ⟨#[]⟩, .slice la0 0 lc0, .slice ia0 0 ic0, .int .i64 0, .string ⟨#[]⟩, .string ⟨#[]⟩], .int .i64 0]) ∧ SlR w2 kd0 (.slice oa0 kd0.ops.length oc0) (.slice pa0 kd0.pcs.length pc0) (.slice la0 kd0.lits.length lc0) (.slice ia0 kd0.ids.length ic0) ∧ Below w'.heap.size w' w2) := fun w' hb => kn_parse kp0 (by decide) (by decide) w' (hg.to hb hB)
  have H1 : Hid (∀ w', Below w.heap.size w w' → Calls Tryz.prog 18 #[.string ⟨#[99, 111, 110, 99, 108, 117, 115, 105, 111, 110, 32, 66, 79, 85, 78, 68, 83, 32, 51, 32, 58, 32, 49, 55, 32, 51]⟩] w' fun e w2 => ∃ oa1 oc1 pa1 pc1 la1 lc1 ia1 ic1, e = .returned (.tuple #[.agg #[.int .i64 9, .string ⟨#[]⟩, .slice oa1 0 oc1, .slice pa1 0 pc1, .string ⟨#[]⟩, .slice la1 0 lc1, .slice ia1 1 ic1, .int .i64 5, .string ⟨#[51]⟩, .string ⟨#[51]⟩], .int .i64 0]) ∧ SlR w2 kd1 (.slice oa1 kd1.ops.length oc1) (.slice pa1 kd1.pcs.length pc1) (.slice la1 kd1.lits.length lc1) (.slice ia1 kd1.ids.length ic1) ∧ Below w'.heap.size w' w2) := fun w' hb => kn_parse kp1 (by decide) (by decide) w' (hg.to hb hB)
  have H2 : Hid (∀ w', Below w.heap.size w w' → Calls Tryz.prog 18 #[.string ⟨#[112, 111, 108, 32, 51, 32, 52, 32, 45]⟩] w' fun e w2 => ∃ oa2 oc2 pa2 pc2 la2 lc2 ia2 ic2, e = .returned (.tuple #[.agg #[.int .i64 0, .string ⟨#[]⟩, .slice oa2 0 oc2, .slice pa2 0 pc2, .string ⟨#[]⟩, .slice la2 0 lc2, .slice ia2 0 ic2, .int .i64 0, .string ⟨#[]⟩, .string ⟨#[]⟩], .int .i64 80]) ∧ SlR w2 kd2 (.slice oa2 kd2.ops.length oc2) (.slice pa2 kd2.pcs.length pc2) (.slice la2 kd2.lits.length lc2) (.slice ia2 kd2.ids.length ic2) ∧ Below w'.heap.size w' w2) := fun w' hb => kn_parse kp2 (by decide) (by decide) w' (hg.to hb hB)
  have H3 : Hid (∀ w', Below w.heap.size w w' → Calls Tryz.prog 18 #[.string ⟨#[114, 117, 112, 32, 49, 32, 120, 49, 32, 62, 61, 32, 49]⟩] w' fun e w2 => ∃ oa3 oc3 pa3 pc3 la3 lc3 ia3 ic3, e = .returned (.tuple #[.agg #[.int .i64 0, .string ⟨#[]⟩, .slice oa3 0 oc3, .slice pa3 0 pc3, .string ⟨#[]⟩, .slice la3 0 lc3, .slice ia3 0 ic3, .int .i64 0, .string ⟨#[]⟩, .string ⟨#[]⟩], .int .i64 82]) ∧ SlR w2 kd3 (.slice oa3 kd3.ops.length oc3) (.slice pa3 kd3.pcs.length pc3) (.slice la3 kd3.lits.length lc3) (.slice ia3 kd3.ids.length ic3) ∧ Below w'.heap.size w' w2) := fun w' hb => kn_parse kp3 (by decide) (by decide) w' (hg.to hb hB)
  have H4 : Hid (∀ w', Below w.heap.size w w' → Calls Tryz.prog 13 #[.agg #[.int .i64 4, .string ⟨#[]⟩, .slice none 0 0, .slice (some ⟨w'.heap.size, 0, none⟩) 2 2, .string ⟨#[48]⟩, .slice none 0 0, .slice none 0 0, .int .i64 0, .string ⟨#[]⟩, .string ⟨#[]⟩]] (w'.alloc (.cells #[.string ⟨#[50]⟩, .int .i64 1, .string ⟨#[45, 51]⟩, .int .i64 (-2)] 82)) fun e w2 => e = .returned (.tuple #[.string ⟨#[114, 117, 112, 32, 50, 32, 120, 49, 32, 45, 51, 32, 126, 120, 50, 32, 62, 61, 32, 48, 32, 59]⟩, .int .i64 0]) ∧ Below w'.heap.size w' w2) := fun w' hb => kn_print w' (hg.to hb hB) (Nat.le_trans hB hb.size)
  have HN : Hid (∀ n w', Calls Tryz.prog 14 #[.int .i64 n] w' fun e w2 => e = .returned (.int .i64 n) ∧ w2 = w') := num_any
  clear hg
  go_enter Tryz.func7, Tryz.ntmps7
  go_wp2_with fail
  refine calls_at (H0.out w (Below.refl _ _)) (by with_reducible rfl) (by with_reducible rfl) ?_
  rintro e u0 ⟨oa0, oc0, pa0, pc0, la0, lc0, ia0, ic0, rfl, h, hb⟩
  have HR0 : Hid (SlR u0 kd0 (.slice oa0 kd0.ops.length oc0) (.slice pa0 kd0.pcs.length pc0) (.slice la0 kd0.lits.length lc0) (.slice ia0 kd0.ids.length ic0)) := h
  have hbu : Below w.heap.size w u0 := hb
  have HU0 : Hid (Below w.heap.size w u0) := hbu
  have HH0 : Hid (Below w.heap.size w u0) := hb
  clear h hb hbu
  go_wp2_with fail
  have hbu := HU0.out
  have hb := HH0.out
  obtain ⟨V0, hV0⟩ : ∃ V, u0.alloc (.cells #[.int .i64 3, .string ⟨#[]⟩, .slice oa0 9 oc0, .slice pa0 0 pc0, .string ⟨#[]⟩, .slice la0 0 lc0, .slice ia0 0 ic0, .int .i64 0, .string ⟨#[]⟩, .string ⟨#[]⟩] 45) = V := ⟨_, rfl⟩
  have hbV : Below u0.heap.size u0 V0 := by rw [← hV0]; exact (Below.refl _ _).alloc (Nat.le_refl _) _
  have HB0 : Hid (Below w.heap.size w V0) := bl_next hbu hbV
  have HG0 : Hid (V0.heap[u0.heap.size]? = some (.cells #[.int .i64 3, .string ⟨#[]⟩, .slice oa0 9 oc0, .slice pa0 0 pc0, .string ⟨#[]⟩, .slice la0 0 lc0, .slice ia0 0 ic0, .int .i64 0, .string ⟨#[]⟩, .string ⟨#[]⟩] 45 (0, 0))) := by show _ = _; rw [← hV0]; exact heap_alloc_new u0 _
  have HS0 : Hid (Below u0.heap.size u0 V0) := hbV
  rw [hV0]
  clear hb hbu hbV hV0
  refine calls_at (H1.out V0 HB0.out) (by with_reducible rfl) (by with_reducible rfl) ?_
  rintro e u1 ⟨oa1, oc1, pa1, pc1, la1, lc1, ia1, ic1, rfl, h, hb⟩
  have HR1 : Hid (SlR u1 kd1 (.slice oa1 kd1.ops.length oc1) (.slice pa1 kd1.pcs.length pc1) (.slice la1 kd1.lits.length lc1) (.slice ia1 kd1.ids.length ic1)) := h
  have hbu : Below w.heap.size w u1 := bl_next HB0.out hb
  have HU1 : Hid (Below w.heap.size w u1) := hbu
  have HH1 : Hid (Below V0.heap.size V0 u1) := hb
  clear h hb hbu
  go_wp2_with fail
  have hbu := HU1.out
  have hb := HH1.out
  obtain ⟨V1, hV1⟩ : ∃ V, u1.alloc (.cells #[.int .i64 9, .string ⟨#[]⟩, .slice oa1 0 oc1, .slice pa1 0 pc1, .string ⟨#[]⟩, .slice la1 0 lc1, .slice ia1 1 ic1, .int .i64 5, .string ⟨#[51]⟩, .string ⟨#[51]⟩] 45) = V := ⟨_, rfl⟩
  have hbV : Below u1.heap.size u1 V1 := by rw [← hV1]; exact (Below.refl _ _).alloc (Nat.le_refl _) _
  have HB1 : Hid (Below w.heap.size w V1) := bl_next hbu hbV
  have HG1 : Hid (V1.heap[u1.heap.size]? = some (.cells #[.int .i64 9, .string ⟨#[]⟩, .slice oa1 0 oc1, .slice pa1 0 pc1, .string ⟨#[]⟩, .slice la1 0 lc1, .slice ia1 1 ic1, .int .i64 5, .string ⟨#[51]⟩, .string ⟨#[51]⟩] 45 (0, 0))) := by show _ = _; rw [← hV1]; exact heap_alloc_new u1 _
  have HQ01 : Hid (Below V0.heap.size V0 V1) := bl_next (bl_next (Below.refl _ _) hb) hbV
  have HS1 : Hid (Below u1.heap.size u1 V1) := hbV
  rw [hV1]
  clear hb hbu hbV hV1
  refine calls_at (H2.out V1 HB1.out) (by with_reducible rfl) (by with_reducible rfl) ?_
  rintro e u2 ⟨oa2, oc2, pa2, pc2, la2, lc2, ia2, ic2, rfl, h, hb⟩
  have HR2 : Hid (SlR u2 kd2 (.slice oa2 kd2.ops.length oc2) (.slice pa2 kd2.pcs.length pc2) (.slice la2 kd2.lits.length lc2) (.slice ia2 kd2.ids.length ic2)) := h
  have hbu : Below w.heap.size w u2 := bl_next HB1.out hb
  have HU2 : Hid (Below w.heap.size w u2) := hbu
  have HH2 : Hid (Below V1.heap.size V1 u2) := hb
  clear h hb hbu
  go_wp2_with fail
  have hbu := HU2.out
  have hb := HH2.out
  obtain ⟨V2, hV2⟩ : ∃ V, u2.alloc (.cells #[.int .i64 0, .string ⟨#[]⟩, .slice oa2 0 oc2, .slice pa2 0 pc2, .string ⟨#[]⟩, .slice la2 0 lc2, .slice ia2 0 ic2, .int .i64 0, .string ⟨#[]⟩, .string ⟨#[]⟩] 45) = V := ⟨_, rfl⟩
  have hbV : Below u2.heap.size u2 V2 := by rw [← hV2]; exact (Below.refl _ _).alloc (Nat.le_refl _) _
  have HB2 : Hid (Below w.heap.size w V2) := bl_next hbu hbV
  have HG2 : Hid (V2.heap[u2.heap.size]? = some (.cells #[.int .i64 0, .string ⟨#[]⟩, .slice oa2 0 oc2, .slice pa2 0 pc2, .string ⟨#[]⟩, .slice la2 0 lc2, .slice ia2 0 ic2, .int .i64 0, .string ⟨#[]⟩, .string ⟨#[]⟩] 45 (0, 0))) := by show _ = _; rw [← hV2]; exact heap_alloc_new u2 _
  have HQ02 : Hid (Below V0.heap.size V0 V2) := bl_next (bl_next HQ01.out hb) hbV
  have HQ12 : Hid (Below V1.heap.size V1 V2) := bl_next (bl_next (Below.refl _ _) hb) hbV
  rw [hV2]
  clear hb hbu hbV hV2
  refine calls_at (H3.out V2 HB2.out) (by with_reducible rfl) (by with_reducible rfl) ?_
  rintro e u3 ⟨oa3, oc3, pa3, pc3, la3, lc3, ia3, ic3, rfl, h, hb⟩
  have HR3 : Hid (SlR u3 kd3 (.slice oa3 kd3.ops.length oc3) (.slice pa3 kd3.pcs.length pc3) (.slice la3 kd3.lits.length lc3) (.slice ia3 kd3.ids.length ic3)) := h
  have hbu : Below w.heap.size w u3 := bl_next HB2.out hb
  have HU3 : Hid (Below w.heap.size w u3) := hbu
  have HH3 : Hid (Below V2.heap.size V2 u3) := hb
  clear h hb hbu
  go_wp2_with fail
  have hbu := HU3.out
  have hb := HH3.out
  obtain ⟨V3, hV3⟩ : ∃ V, u3.alloc (.cells #[.int .i64 0, .string ⟨#[]⟩, .slice oa3 0 oc3, .slice pa3 0 pc3, .string ⟨#[]⟩, .slice la3 0 lc3, .slice ia3 0 ic3, .int .i64 0, .string ⟨#[]⟩, .string ⟨#[]⟩] 45) = V := ⟨_, rfl⟩
  have hbV : Below u3.heap.size u3 V3 := by rw [← hV3]; exact (Below.refl _ _).alloc (Nat.le_refl _) _
  have HB3 : Hid (Below w.heap.size w V3) := bl_next hbu hbV
  have HG3 : Hid (V3.heap[u3.heap.size]? = some (.cells #[.int .i64 0, .string ⟨#[]⟩, .slice oa3 0 oc3, .slice pa3 0 pc3, .string ⟨#[]⟩, .slice la3 0 lc3, .slice ia3 0 ic3, .int .i64 0, .string ⟨#[]⟩, .string ⟨#[]⟩] 45 (0, 0))) := by show _ = _; rw [← hV3]; exact heap_alloc_new u3 _
  have HQ03 : Hid (Below V0.heap.size V0 V3) := bl_next (bl_next HQ02.out hb) hbV
  have HQ13 : Hid (Below V1.heap.size V1 V3) := bl_next (bl_next HQ12.out hb) hbV
  have HQ23 : Hid (Below V2.heap.size V2 V3) := bl_next (bl_next (Below.refl _ _) hb) hbV
  have hs3 : V3.heap.size = u3.heap.size + 1 := by rw [← hV3]; simp
  rw [hV3]
  clear hb hbu hbV hV3
  have H4' := H4.out V3 HB3.out
  rw [hs3] at H4'
  refine calls_at H4' (by with_reducible rfl) (by with_reducible rfl) ?_
  rintro e w5 ⟨rfl, hb5⟩
  rw [← hs3] at hb5
  clear H4' hs3
  have HB5 : Hid (Below w.heap.size w w5) := bl_next HB3.out hb5
  have q0 : Below V0.heap.size V0 w5 := bl_next HQ03.out hb5
  have q1 : Below V1.heap.size V1 w5 := bl_next HQ13.out hb5
  have g0 := (q0.block _ (Array.getElem?_eq_some_iff.1 HG0.out).1).trans HG0.out
  have g1 := (q1.block _ (Array.getElem?_eq_some_iff.1 HG1.out).1).trans HG1.out
  have r0 := (HR0.out.below (HS0.out)).below q0
  obtain ⟨a0, c0, e0, _, hc0⟩ := r0.o
  injection e0 with e1 e2 e3
  subst e1
  obtain ⟨g, off, rfl, _, hcell⟩ := hc0 (by decide)
  have x0 : w5.cell? ⟨g, off + 12, none⟩ = some (.int .i64 7) := hcell 12 _ (by kernel_rfl)
  have x1 : w5.cell? ⟨g, off + 12 + 1, none⟩ = some (.string ⟨#[]⟩) := hcell 13 _ (by kernel_rfl)
  have x2 : w5.cell? ⟨g, off + 12 + 2, none⟩ = some (.int .i64 5) := hcell 14 _ (by kernel_rfl)
  have y0 : w5.cell? ⟨g, off + 18, none⟩ = some (.int .i64 2) := hcell 18 _ (by kernel_rfl)
  have y1 : w5.cell? ⟨g, off + 18 + 1, none⟩ = some (.string ⟨#[]⟩) := hcell 19 _ (by kernel_rfl)
  have y2 : w5.cell? ⟨g, off + 18 + 2, none⟩ = some (.int .i64 (-1)) := hcell 20 _ (by kernel_rfl)
  have m2 := cell_of g0 2
  have n6 := cell_of g1 6
  have n8 := cell_of g1 8
  have n9 := cell_of g1 9
  dsimp at m2 n6 n8 n9
  have hq1 : ∀ W, (binOp .eql 84 (.agg #[.int .i64 7, .string ⟨#[]⟩, .int .i64 5]) (.agg #[.int .i64 7, .string ⟨#[]⟩, .int .i64 5])).run Tryz.prog W = .ok (.bool true) W := fun W => by rw [op_eql]; simp
  have hq2 : ∀ W, (binOp .eql 84 (.agg #[.int .i64 2, .string ⟨#[]⟩, .int .i64 (-1)]) (.agg #[.int .i64 2, .string ⟨#[]⟩, .int .i64 (-1)])).run Tryz.prog W = .ok (.bool true) W := fun W => by rw [op_eql]; simp
  clear hb5 q0 q1 g0 g1 r0 hcell hc0
  go_wp2_with fail
  refine calls_at (HN.out _ _) (by with_reducible rfl) (by with_reducible rfl) ?_
  rintro e w6 ⟨rfl, rfl⟩
  go_wp2_with fail
  refine calls_at (HN.out _ _) (by with_reducible rfl) (by with_reducible rfl) ?_
  rintro e w7 ⟨rfl, rfl⟩
  go_wp2_with fail
  refine calls_at (HN.out _ _) (by with_reducible rfl) (by with_reducible rfl) ?_
  rintro e w8 ⟨rfl, rfl⟩
  go_wp2_with fail
  refine calls_at (HN.out _ _) (by with_reducible rfl) (by with_reducible rfl) ?_
  rintro e w9 ⟨rfl, rfl⟩
  go_wp2_with fail
  refine calls_at (HN.out _ _) (by with_reducible rfl) (by with_reducible rfl) ?_
  rintro e w10 ⟨rfl, rfl⟩
  go_wp2_with fail
  go_ret
  exact ⟨rfl, HB5.out⟩
end Go.Proofs.YtibbnijicdijnaaGreatDoor
