/-
  Put together: PfKnown, PfRng, PfWr7, PfWr8.
-/
import Derived.Test.YtibbnijicdijnaaGreatDoorJ39
import Derived.RangeFuncNested
import Derived.RangeFuncBound
import Derived.RangeFuncCalls
import Derived.RangeFuncLeaves
import Derived.Shelf.Abstract
import Derived.Shelf.RegionOpen
import Derived.OwnWalkIn
import Derived.TacticsInMore
import Derived.LoopNIn
import Derived.LoopIn
import Derived.Test.YtibbnijicdijnaaGreatDoorJ37
namespace Go.Proofs.YtibbnijicdijnaaGreatDoor
open Go.RowKit

theorem Gl.to {B : Nat} {w w' : World} (h : Gl w) (k : Below B w w') (hB : 12 ≤ B) : Gl w' := h.below k hB

set_option maxRecDepth 20000 in
set_option maxHeartbeats 4000000 in
theorem known_any (w : World) (hg : Gl w) (hB : 12 ≤ w.heap.size) : Calls Tryz.prog 7 #[] w fun e w' => e = .returned (.bool true) ∧ Below w.heap.size w w' := by
  have H0 : Hid (∀ w', Below w.heap.size w w' → Calls Tryz.prog 18 #[.string ⟨#[112, 111, 108, 32, 51, 32, 52, 32, 43, 32, 50, 32, 100, 32, 120, 53, 32, 119, 32, 115, 32, 126, 120, 49, 32, 51, 32, 42, 32, 43]⟩] w' fun e w2 => ∃ oa0 oc0 pa0 pc0 la0 lc0 ia0 ic0, e = .returned (.tuple #[.agg #[.int .i64 3, .string ⟨#[]⟩, .slice oa0 9 oc0, .slice pa0 0 pc0, .string ⟨#[]⟩, .slice la0 0 lc0, .slice ia0 0 ic0, .int .i64 0, .string ⟨#[]⟩, .string ⟨#[]⟩], .int .i64 0]) ∧ SlR w2 kd0 (.slice oa0 kd0.ops.length oc0) (.slice pa0 kd0.pcs.length pc0) (.slice la0 kd0.lits.length lc0) (.slice ia0 kd0.ids.length ic0) ∧ Below w'.heap.size w' w2) := fun w' hb => kn_parse kp0 (by decide) (by decide) w' (hg.to hb hB)
  have H1 : Hid (∀ w', Below w.heap.size w w' → Calls Tryz.prog 18 #[.string ⟨#[99, 111, 110, 99, 108, 117, 115, 105, 111, 110, 32, 66, 79, 85, 78, 68, 83, 32, 51, 32, 58, 32, 49, 55, 32, 51]⟩] w' fun e w2 => ∃ oa1 oc1 pa1 pc1 la1 lc1 ia1 ic1, e = .returned (.tuple #[.agg #[.int .i64 9, .string ⟨#[]⟩, .slice oa1 0 oc1, .slice pa1 0 pc1, .string ⟨#[]⟩, .slice la1 0 lc1, .slice ia1 1 ic1, .int .i64 5, .string ⟨#[51]⟩, .string ⟨#[51]⟩], .int .i64 0]) ∧ SlR w2 kd1 (.slice oa1 kd1.ops.length oc1) (.slice pa1 kd1.pcs.length pc1) (.slice la1 kd1.lits.length lc1) (.slice ia1 kd1.ids.length ic1) ∧ Below w'.heap.size w' w2) := fun w' hb => kn_parse kp1 (by decide) (by decide) w' (hg.to hb hB)
  have H2 : Hid (∀ w', Below w.heap.size w w' → Calls Tryz.prog 18 #[.string ⟨#[112, 111, 108, 32, 51, 32, 52, 32, 45]⟩] w' fun e w2 => ∃ oa2 oc2 pa2 pc2 la2 lc2 ia2 ic2, e = .returned (.tuple #[.agg #[.int .i64 0, .string ⟨#[]⟩, .slice oa2 0 oc2, .slice pa2 0 pc2, .string ⟨#[]⟩, .slice la2 0 lc2, .slice ia2 0 ic2, .int .i64 0, .string ⟨#[]⟩, .string ⟨#[]⟩], .int .i64 80]) ∧ SlR w2 kd2 (.slice oa2 kd2.ops.length oc2) (.slice pa2 kd2.pcs.length pc2) (.slice la2 kd2.lits.length lc2) (.slice ia2 kd2.ids.length ic2) ∧ Below w'.heap.size w' w2) := fun w' hb => kn_parse kp2 (by decide) (by decide) w' (hg.to hb hB)
  have H3 : Hid (∀ w', Below w.heap.size w w' → Calls Tryz.prog 18 #[.string ⟨#[114, 117, 112, 32, 49, 32, 120, 49, 32, 62, 61, 32, 49]⟩] w' fun e w2 => ∃ oa3 oc3 pa3 pc3 la3 lc3 ia3 ic3, e = .returned (.tuple #[.agg #[.int .i64 0, .string ⟨#[]⟩, .slice oa3 0 oc3, .slice pa3 0 pc3, .string ⟨#[]⟩, .slice la3 0 lc3, .slice ia3 0 ic3, .int .i64 0, .string ⟨#[]⟩, .string ⟨#[]⟩], .int .i64 82]) ∧ SlR w2 kd3 (.slice oa3 kd3.ops.length oc3) (.slice pa3 kd3.pcs.length pc3) (.slice la3 kd3.lits.length lc3) (.slice ia3 kd3.ids.length ic3) ∧ Below w'.heap.size w' w2) := fun w' hb => kn_parse kp3 (by decide) (by decide) w' (hg.to hb hB)
  have H4 : Hid (∀ w', Below w.heap.size w w' → Calls Tryz.prog 13 #[.agg #[.int .i64 4, .string ⟨#[]⟩, .slice none 0 0, .slice (some ⟨w'.heap.size, 0, none⟩) 2 2, .string ⟨#[48]⟩, .slice none 0 0, .slice none 0 0, .int .i64 0, .string ⟨#[]⟩, .string ⟨#[]⟩]] (w'.alloc (.cells #[.string ⟨#[50]⟩, .int .i64 1, .string ⟨#[45, 51]⟩, .int .i64 (-2)] 82)) fun e w2 => e = .returned (.tuple #[.string ⟨#[114, 117, 112, 32, 50, 32, 120, 49, 32, 45, 51, 32, 126, 120, 50, 32, 62, 61, 32, 48, 32, 59]⟩, .int .i64 0]) ∧ Below w'.heap.size w' w2) := fun w' hb => kn_print w' (hg.to hb hB) (Nat.le_trans hB hb.size)
  have HN : Hid (∀ n w', Calls Tryz.prog 14 #[.int .i64 n] w' fun e w2 => e = .returned (.int .i64 n) ∧ w2 = w') := num_any
  clear hg
  go_enter Tryz.func7, Tryz.ntmps7
  go_wp2_with fail
  refine calls_at (H0.out w (Below.refl _ _)) (by with_reducible rfl) (by with_reducible rfl) ?_
  rintro e u0 ⟨oa0, oc0, pa0, pc0, la0, lc0, ia0, ic0, rfl, h, hb⟩
  have HR0 : Hid (SlR u0 kd0 (.slice oa0 kd0.ops.length oc0) (.slice pa0 kd0.pcs.length pc0) (.slice la0 kd0.lits.length lc0) (.slice ia0 kd0.ids.length ic0)) := h
  have hbu : Below w.heap.size w u0 := hb
  have HU0 : Hid (Below w.heap.size w u0) := hbu
  have HH0 : Hid (Below w.heap.size w u0) := hb
  clear h hb hbu
  go_wp2_with fail
  have hbu := HU0.out
  have hb := HH0.out
  obtain ⟨V0, hV0⟩ : ∃ V, u0.alloc (.cells #[.int .i64 3, .string ⟨#[]⟩, .slice oa0 9 oc0, .slice pa0 0 pc0, .string ⟨#[]⟩, .slice la0 0 lc0, .slice ia0 0 ic0, .int .i64 0, .string ⟨#[]⟩, .string ⟨#[]⟩] 45) = V := ⟨_, rfl⟩
  have hbV : Below u0.heap.size u0 V0 := by rw [← hV0]; exact (Below.refl _ _).alloc (Nat.le_refl _) _
  have HB0 : Hid (Below w.heap.size w V0) := bl_next hbu hbV
  have HG0 : Hid (V0.heap[u0.heap.size]? = some (.cells #[.int .i64 3, .string ⟨#[]⟩, .slice oa0 9 oc0, .slice pa0 0 pc0, .string ⟨#[]⟩, .slice la0 0 lc0, .slice ia0 0 ic0, .int .i64 0, .string ⟨#[]⟩, .string ⟨#[]⟩] 45 (0, 0))) := by show _ = _; rw [← hV0]; exact heap_alloc_new u0 _
  have HS0 : Hid (Below u0.heap.size u0 V0) := hbV
  rw [hV0]
  clear hb hbu hbV hV0
  refine calls_at (H1.out V0 HB0.out) (by with_reducible rfl) (by with_reducible rfl) ?_
  rintro e u1 ⟨oa1, oc1, pa1, pc1, la1, lc1, ia1, ic1, rfl, h, hb⟩
  have HR1 : Hid (SlR u1 kd1 (.slice oa1 kd1.ops.length oc1) (.slice pa1 kd1.pcs.length pc1) (.slice la1 kd1.lits.length lc1) (.slice ia1 kd1.ids.length ic1)) := h
  have hbu : Below w.heap.size w u1 := bl_next HB0.out hb
  have HU1 : Hid (Below w.heap.size w u1) := hbu
  have HH1 : Hid (Below V0.heap.size V0 u1) := hb
  clear h hb hbu
  go_wp2_with fail
  have hbu := HU1.out
  have hb := HH1.out
  obtain ⟨V1, hV1⟩ : ∃ V, u1.alloc (.cells #[.int .i64 9, .string ⟨#[]⟩, .slice oa1 0 oc1, .slice pa1 0 pc1, .string ⟨#[]⟩, .slice la1 0 lc1, .slice ia1 1 ic1, .int .i64 5, .string ⟨#[51]⟩, .string ⟨#[51]⟩] 45) = V := ⟨_, rfl⟩
  have hbV : Below u1.heap.size u1 V1 := by rw [← hV1]; exact (Below.refl _ _).alloc (Nat.le_refl _) _
  have HB1 : Hid (Below w.heap.size w V1) := bl_next hbu hbV
  have HG1 : Hid (V1.heap[u1.heap.size]? = some (.cells #[.int .i64 9, .string ⟨#[]⟩, .slice oa1 0 oc1, .slice pa1 0 pc1, .string ⟨#[]⟩, .slice la1 0 lc1, .slice ia1 1 ic1, .int .i64 5, .string ⟨#[51]⟩, .string ⟨#[51]⟩] 45 (0, 0))) := by show _ = _; rw [← hV1]; exact heap_alloc_new u1 _
  have HQ01 : Hid (Below V0.heap.size V0 V1) := bl_next (bl_next (Below.refl _ _) hb) hbV
  have HS1 : Hid (Below u1.heap.size u1 V1) := hbV
  rw [hV1]
  clear hb hbu hbV hV1
  refine calls_at (H2.out V1 HB1.out) (by with_reducible rfl) (by with_reducible rfl) ?_
  rintro e u2 ⟨oa2, oc2, pa2, pc2, la2, lc2, ia2, ic2, rfl, h, hb⟩
  have HR2 : Hid (SlR u2 kd2 (.slice oa2 kd2.ops.length oc2) (.slice pa2 kd2.pcs.length pc2) (.slice la2 kd2.lits.length lc2) (.slice ia2 kd2.ids.length ic2)) := h
  have hbu : Below w.heap.size w u2 := bl_next HB1.out hb
  have HU2 : Hid (Below w.heap.size w u2) := hbu
  have HH2 : Hid (Below V1.heap.size V1 u2) := hb
  clear h hb hbu
  go_wp2_with fail
  have hbu := HU2.out
  have hb := HH2.out
  obtain ⟨V2, hV2⟩ : ∃ V, u2.alloc (.cells #[.int .i64 0, .string ⟨#[]⟩, .slice oa2 0 oc2, .slice pa2 0 pc2, .string ⟨#[]⟩, .slice la2 0 lc2, .slice ia2 0 ic2, .int .i64 0, .string ⟨#[]⟩, .string ⟨#[]⟩] 45) = V := ⟨_, rfl⟩
  have hbV : Below u2.heap.size u2 V2 := by rw [← hV2]; exact (Below.refl _ _).alloc (Nat.le_refl _) _
  have HB2 : Hid (Below w.heap.size w V2) := bl_next hbu hbV
  have HG2 : Hid (V2.heap[u2.heap.size]? = some (.cells #[.int .i64 0, .string ⟨#[]⟩, .slice oa2 0 oc2, .slice pa2 0 pc2, .string ⟨#[]⟩, .slice la2 0 lc2, .slice ia2 0 ic2, .int .i64 0, .string ⟨#[]⟩, .string ⟨#[]⟩] 45 (0, 0))) := by show _ = _; rw [← hV2]; exact heap_alloc_new u2 _
  have HQ02 : Hid (Below V0.heap.size V0 V2) := bl_next (bl_next HQ01.out hb) hbV
  have HQ12 : Hid (Below V1.heap.size V1 V2) := bl_next (bl_next (Below.refl _ _) hb) hbV
  rw [hV2]
  clear hb hbu hbV hV2
  refine calls_at (H3.out V2 HB2.out) (by with_reducible rfl) (by with_reducible rfl) ?_
  rintro e u3 ⟨oa3, oc3, pa3, pc3, la3, lc3, ia3, ic3, rfl, h, hb⟩
  have HR3 : Hid (SlR u3 kd3 (.slice oa3 kd3.ops.length oc3) (.slice pa3 kd3.pcs.length pc3) (.slice la3 kd3.lits.length lc3) (.slice ia3 kd3.ids.length ic3)) := h
  have hbu : Below w.heap.size w u3 := bl_next HB2.out hb
  have HU3 : Hid (Below w.heap.size w u3) := hbu
  have HH3 : Hid (Below V2.heap.size V2 u3) := hb
  clear h hb hbu
  go_wp2_with fail
  have hbu := HU3.out
  have hb := HH3.out
  obtain ⟨V3, hV3⟩ : ∃ V, u3.alloc (.cells #[.int .i64 0, .string ⟨#[]⟩, .slice oa3 0 oc3, .slice pa3 0 pc3, .string ⟨#[]⟩, .slice la3 0 lc3, .slice ia3 0 ic3, .int .i64 0, .string ⟨#[]⟩, .string ⟨#[]⟩] 45) = V := ⟨_, rfl⟩
  have hbV : Below u3.heap.size u3 V3 := by rw [← hV3]; exact (Below.refl _ _).alloc (Nat.le_refl _) _
  have HB3 : Hid (Below w.heap.size w V3) := bl_next hbu hbV
  have HG3 : Hid (V3.heap[u3.heap.size]? = some (.cells #[.int .i64 0, .string ⟨#[]⟩, .slice oa3 0 oc3, .slice pa3 0 pc3, .string ⟨#[]⟩, .slice la3 0 lc3, .slice ia3 0 ic3, .int .i64 0, .string ⟨#[]⟩, .string ⟨#[]⟩] 45 (0, 0))) := by show _ = _; rw [← hV3]; exact heap_alloc_new u3 _
  have HQ03 : Hid (Below V0.heap.size V0 V3) := bl_next (bl_next HQ02.out hb) hbV
  have HQ13 : Hid (Below V1.heap.size V1 V3) := bl_next (bl_next HQ12.out hb) hbV
  have HQ23 : Hid (Below V2.heap.size V2 V3) := bl_next (bl_next (Below.refl _ _) hb) hbV
  have hs3 : V3.heap.size = u3.heap.size + 1 := by rw [← hV3]; simp
  rw [hV3]
  clear hb hbu hbV hV3
  have H4' := H4.out V3 HB3.out
  rw [hs3] at H4'
  refine calls_at H4' (by with_reducible rfl) (by with_reducible rfl) ?_
  rintro e w5 ⟨rfl, hb5⟩
  rw [← hs3] at hb5
  clear H4' hs3
  have HB5 : Hid (Below w.heap.size w w5) := bl_next HB3.out hb5
  have q0 : Below V0.heap.size V0 w5 := bl_next HQ03.out hb5
  have q1 : Below V1.heap.size V1 w5 := bl_next HQ13.out hb5
  have g0 := (q0.block _ (Array.getElem?_eq_some_iff.1 HG0.out).1).trans HG0.out
  have g1 := (q1.block _ (Array.getElem?_eq_some_iff.1 HG1.out).1).trans HG1.out
  have r0 := (HR0.out.below (HS0.out)).below q0
  obtain ⟨a0, c0, e0, _, hc0⟩ := r0.o
  injection e0 with e1 e2 e3
  subst e1
  obtain ⟨g, off, rfl, _, hcell⟩ := hc0 (by decide)
  have x0 : w5.cell? ⟨g, off + 12, none⟩ = some (.int .i64 7) := hcell 12 _ (by kernel_rfl)
  have x1 : w5.cell? ⟨g, off + 12 + 1, none⟩ = some (.string ⟨#[]⟩) := hcell 13 _ (by kernel_rfl)
  have x2 : w5.cell? ⟨g, off + 12 + 2, none⟩ = some (.int .i64 5) := hcell 14 _ (by kernel_rfl)
  have y0 : w5.cell? ⟨g, off + 18, none⟩ = some (.int .i64 2) := hcell 18 _ (by kernel_rfl)
  have y1 : w5.cell? ⟨g, off + 18 + 1, none⟩ = some (.string ⟨#[]⟩) := hcell 19 _ (by kernel_rfl)
  have y2 : w5.cell? ⟨g, off + 18 + 2, none⟩ = some (.int .i64 (-1)) := hcell 20 _ (by kernel_rfl)
  have m2 := cell_of g0 2
  have n6 := cell_of g1 6
  have n8 := cell_of g1 8
  have n9 := cell_of g1 9
  dsimp at m2 n6 n8 n9
  have hq1 : ∀ W, (binOp .eql 84 (.agg #[.int .i64 7, .string ⟨#[]⟩, .int .i64 5]) (.agg #[.int .i64 7, .string ⟨#[]⟩, .int .i64 5])).run Tryz.prog W = .ok (.bool true) W := fun W => by rw [op_eql]; simp
  have hq2 : ∀ W, (binOp .eql 84 (.agg #[.int .i64 2, .string ⟨#[]⟩, .int .i64 (-1)]) (.agg #[.int .i64 2, .string ⟨#[]⟩, .int .i64 (-1)])).run Tryz.prog W = .ok (.bool true) W := fun W => by rw [op_eql]; simp
  clear hb5 q0 q1 g0 g1 r0 hcell hc0
  go_wp2_with fail
  refine calls_at (HN.out _ _) (by with_reducible rfl) (by with_reducible rfl) ?_
  rintro e w6 ⟨rfl, rfl⟩
  go_wp2_with fail
  refine calls_at (HN.out _ _) (by with_reducible rfl) (by with_reducible rfl) ?_
  rintro e w7 ⟨rfl, rfl⟩
  go_wp2_with fail
  refine calls_at (HN.out _ _) (by with_reducible rfl) (by with_reducible rfl) ?_
  rintro e w8 ⟨rfl, rfl⟩
  go_wp2_with fail
  refine calls_at (HN.out _ _) (by with_reducible rfl) (by with_reducible rfl) ?_
  rintro e w9 ⟨rfl, rfl⟩
  go_wp2_with fail
  refine calls_at (HN.out _ _) (by with_reducible rfl) (by with_reducible rfl) ?_
  rintro e w10 ⟨rfl, rfl⟩
  go_wp2_with fail
  go_ret
  exact ⟨rfl, HB5.out⟩
end Go.Proofs.YtibbnijicdijnaaGreatDoor

namespace Go.Proofs.YtibbnijicdijnaaGreatDoor
open Go Go.RowKit

/-- All but the blocks of S stays. -/
structure Ofw (S : Nat → Prop) (w w' : World) : Prop where
  os : w'.os = w.os
  tape : w'.tape = w.tape
  output : w'.output = w.output
  size : w.heap.size ≤ w'.heap.size
  block : ∀ k, k < w.heap.size → ¬ S k → w'.heap[k]? = w.heap[k]?
theorem Ofw.refl (S : Nat → Prop) (w : World) : Ofw S w w := ⟨rfl, rfl, rfl, Nat.le_refl _, fun _ _ _ => rfl⟩
theorem Ofw.trans {S : Nat → Prop} {a b c : World} (h : Ofw S a b) (k : Ofw S b c) : Ofw S a c :=
  ⟨k.os.trans h.os, k.tape.trans h.tape, k.output.trans h.output, Nat.le_trans h.size k.size, fun i hi hs => (k.block i (Nat.lt_of_lt_of_le hi h.size) hs).trans (h.block i hi hs)⟩
theorem Ofw.of_below {S : Nat → Prop} {w w' : World} (h : Below w.heap.size w w') : Ofw S w w' := ⟨h.os, h.tape, h.output, h.size, fun k hk _ => h.block k hk⟩
theorem Ofw.set {S : Nat → Prop} {w : World} {g i : Nat} (v : Value) (h : S g) : Ofw S w (w.setCell ⟨g, i, none⟩ v) :=
  ⟨rfl, rfl, rfl, by simp [World.setCell], fun k _ hs => Below.heap_setCell _ ⟨g, i, none⟩ _ k (fun e => hs (e ▸ h))⟩
theorem Ofw.less {S T : Nat → Prop} {w w' : World} (h : Ofw S w w') (hs : ∀ k, S k → T k) : Ofw T w w' := ⟨h.os, h.tape, h.output, h.size, fun k hk ht => h.block k hk fun e => ht (hs k e)⟩
theorem Ofw.below {S : Nat → Prop} {B : Nat} {w w' : World} (h : Ofw S w w') (hS : ∀ k, S k → B ≤ k) (hB : B ≤ w.heap.size) : Below B w w' := ⟨h.os, h.tape, h.output, h.size, fun k hk => h.block k (Nat.lt_of_lt_of_le hk hB) fun e => by have := hS k e; omega⟩

/-- An iterator that gives xs until a round says no; T: its own blocks, which no round may touch; at a round memory has M blocks at least. -/
def SeqX {α : Type} (F : Fence) (n : Nat) (P : Program) (g : Nat) (lb : Array Value) (encs : α → Array Value) (T : Nat → Prop) (M : Nat) (xs : List α) (w : World) : Prop :=
  ∀ (l : Nat) (J J' : List α → World → Prop), (∀ s W W', J s W → Ofw T W W' → J s W') → (∀ s W W', J' s W → Ofw T W W' → J' s W') →
    (∀ pre x post W, xs = pre ++ x :: post → J pre W → M ≤ W.heap.size → YieldAt F (n - 1) P l (encs x) W fun e W' => ((e = .returned (.bool true) ∧ J (pre ++ [x]) W') ∨ (e = .returned (.bool false) ∧ J' (pre ++ [x]) W')) ∧ W.heap.size ≤ W'.heap.size ∧ ∀ k, T k → W'.heap[k]? = W.heap[k]?) →
    J [] w → CallsIn F n P g (#[.func (.yield l) #[] #[]] ++ lb) w fun e W' => (∃ v, e = .returned v) ∧ (J xs W' ∨ ∃ pre x post, xs = pre ++ x :: post ∧ J' (pre ++ [x]) W')

theorem off_putObj {S : Nat → Prop} (W : World) (k : Nat) (o : Obj) (hk : S k) : Ofw S W (W.putObj k o) := ⟨rfl, rfl, rfl, by simp, fun i _ hi => World.putObj_heap_other (fun e => hi (e ▸ hk))⟩

theorem range_stop {α : Type} {F : Fence} {n : Nat} {P : Program} {g : Operand} {ps : Array Tmp} {assign body : Code} {Q : Exit → Act → World → Prop} {a : Act} {w : World}
    (hro : F.round = none) (h1 : 1 ≤ n) {gf : Nat} {lb : Array Value} (hg : a.eval g = .func (.func gf) #[] lb) (hFg : F.fn gf) (eg : ∀ args w, (callFunc gf args).run P w = .ok (.enter gf args) w)
    {encs : α → Array Value} {T : Nat → Prop} {M : Nat} {xs : List α} (hT : ∀ k, T k → k < w.heap.size ∨ w.heap.size + 2 ≤ k)
    (hseq : ∀ W, RowKit.Below w.heap.size w W → W.heap.size = w.heap.size + 2 → SeqX F (n - 1) P gf lb encs T M xs W) (hps : ∀ x, (encs x).size = ps.size)
    (I I' : List α → World → Prop) (hI : ∀ s W W', I s W → Ofw (fun k => T k ∨ k = w.heap.size ∨ k = w.heap.size + 1) W W' → I s W') (hI' : ∀ s W W', I' s W → Ofw (fun k => T k ∨ k = w.heap.size ∨ k = w.heap.size + 1) W W' → I' s W') (h0 : I [] w) (a₁ : α → Act)
    (hassign : ∀ (l : Nat) (x : α) (W : World) (K : Act → World → Prop), K (a₁ x) W → assign.wpIn (F.inRound l) (n - 1 - 1) P (Exit.then K (fun _ _ _ => False)) { tmps := (ps.zip (encs x)).foldl (fun t (p, v) => t.setIfInBounds p v) a.tmps, defers := [] } W)
    (hbody : ∀ (l : Nat) (pre : List α) (x : α) (post : List α) (W : World), xs = pre ++ x :: post → I pre W → M ≤ W.heap.size → w.heap.size + 2 ≤ W.heap.size →
      body.wpIn (F.inRound l) (n - 1 - 1) P (fun ex _ W' => ((ex = .normal ∧ I (pre ++ [x]) W') ∨ (ex = .ret ∧ I' (pre ++ [x]) W')) ∧ W.heap.size ≤ W'.heap.size ∧ ∀ k, (T k ∨ k = w.heap.size ∨ k = w.heap.size + 1) → W'.heap[k]? = W.heap[k]?) (a₁ x) W)
    (hdone : ∀ (W : World), I xs W → W.heap[w.heap.size]? = some (.deferred (some [])) → Q .normal { a with defers := { target := .collected w.heap.size, args := #[] } :: a.defers } W)
    (hstop : ∀ (pre : List α) (x : α) (post : List α) (W : World), xs = pre ++ x :: post → I' (pre ++ [x]) W → W.heap[w.heap.size]? = some (.deferred (some [])) → Q .ret { a with defers := { target := .collected w.heap.size, args := #[] } :: a.defers } W) :
    (Code.rangeFunc g ps assign body).wpIn F n P Q a w := by
  refine wpIn_rangeFunc fun fn hfn => ?_
  obtain ⟨rec, hrec⟩ : ∃ rec : LoopState → Option Code → Loop, rec = fun st p => { state := st, pending := p, fn := fn, tmps := a.tmps, params := ps, assign := assign, body := body, defers := w.heap.size } := ⟨_, rfl⟩
  obtain ⟨D, hD⟩ : ∃ D, D = w.heap.size := ⟨_, rfl⟩
  have hnew := run_enterLoop_outer (P := P) (w := w) fn a.tmps ps assign body
  rw [← hro] at hnew
  obtain ⟨W1, hW1⟩ : ∃ W1, (w.alloc (.deferred (some []))).alloc (.loop (rec .ready none)) = W1 := ⟨_, rfl⟩
  have hrr : rec .ready none = { state := .ready, pending := none, fn := fn, tmps := a.tmps, params := ps, assign := assign, body := body, defers := w.heap.size } := by rw [hrec]
  rw [← hrr, hW1] at hnew
  have hb1 : RowKit.Below w.heap.size w W1 := by
    rw [← hW1]
    exact ((Below.refl _ w).alloc (Nat.le_refl _) _).alloc (by simp) _
  have hs1 : W1.heap.size = w.heap.size + 2 := by rw [← hW1]; simp
  have hl1 : W1.heap[D + 1]? = some (.loop (rec .ready none)) := by
    rw [← hW1, hD]
    have := World.alloc_heap_new (w.alloc (.deferred (some []))) (.loop (rec .ready none))
    rwa [World.size_alloc] at this
  have hk1 : W1.heap[D]? = some (.deferred (some [])) := by
    rw [← hW1, hD]
    exact (Below.heap_alloc _ _ _ (by simp)).trans (World.alloc_heap_new w _)
  refine ⟨w.heap.size + 1, _, W1, { target := .fn (.func gf) lb, args := #[.func (.yield (w.heap.size + 1)) #[] #[]] }, W1, gf, #[.func (.yield (w.heap.size + 1)) #[] #[]] ++ lb, W1, hnew, ?_, ?_, ?_, fun _ => h1, ?_⟩
  · simp only [resolve, hg]
    simp [go_sem]
  · intro f' hf'
    simp [Target.leads] at hf'
    subst hf'
    exact hFg
  · simp [invoke, go_sem, eg]
  · rw [← hD] at hT hseq hI hI' hbody hdone hstop ⊢
    refine (hseq W1 (hD ▸ hb1) (hD ▸ hs1) (D + 1) (fun pre W => I pre W ∧ W.heap[D + 1]? = some (.loop (rec .ready none)) ∧ W.heap[D]? = some (.deferred (some []))) (fun pre W => I' pre W ∧ W.heap[D + 1]? = some (.loop (rec .done (some .ret))) ∧ W.heap[D]? = some (.deferred (some []))) ?_ ?_ ?_ ⟨hI _ _ _ h0 (Ofw.of_below hb1), hl1, hk1⟩).mono ?_
    · rintro s W W' ⟨hi, hl, hk⟩ ho
      have h3 := (Array.getElem?_eq_some_iff.1 hl).1
      have h4 := (Array.getElem?_eq_some_iff.1 hk).1
      refine ⟨hI s W W' hi (ho.less fun k h => .inl h), (ho.block _ h3 fun h => ?_).trans hl, (ho.block _ h4 fun h => ?_).trans hk⟩
      · have := hT _ h; omega
      · have := hT _ h; omega
    · rintro s W W' ⟨hi, hl, hk⟩ ho
      have h3 := (Array.getElem?_eq_some_iff.1 hl).1
      have h4 := (Array.getElem?_eq_some_iff.1 hk).1
      refine ⟨hI' s W W' hi (ho.less fun k h => .inl h), (ho.block _ h3 fun h => ?_).trans hl, (ho.block _ h4 fun h => ?_).trans hk⟩
      · have := hT _ h; omega
      · have := hT _ h; omega
    · rintro pre x post W hx ⟨hi, hl, hk⟩ hM
      have h3 := (Array.getElem?_eq_some_iff.1 hl).1
      have hy := run_yield (P := P) (args := encs x) hl (by rw [hrec]; exact hps x)
      rw [hrec] at hy
      refine ⟨fn, _, assign, body, hy, roundIn_of_wpIn hfn (hassign _ x W _ ?_)⟩
      obtain ⟨W2, hW2⟩ : ∃ W2, W.putObj (D + 1) (.loop { rec .ready none with state := .busy }) = W2 := ⟨_, rfl⟩
      have o2 : Ofw (fun k => T k ∨ k = D ∨ k = D + 1) W W2 := hW2 ▸ off_putObj W (D + 1) _ (.inr (.inr rfl))
      have l2 : W2.heap[D + 1]? = some (.loop { rec .ready none with state := .busy }) := hW2 ▸ World.putObj_heap_same h3
      have k2 : W2.heap[D]? = some (.deferred (some [])) := hW2 ▸ (World.putObj_heap_other (by omega)).trans hk
      have e2 : ∀ k, k ≠ D + 1 → W2.heap[k]? = W.heap[k]? := fun k hne => hW2 ▸ World.putObj_heap_other hne
      have s2 : W2.heap.size = W.heap.size := by rw [← hW2]; simp
      refine ⟨W2, hW2 ▸ run_beginRound hl (by rw [hrec]), wpIn_mono (hbody _ pre x post W2 hx (hI _ _ _ hi o2) (by omega) (by omega)) ?_⟩
      rintro ex a3 W3 ⟨hex, hs3, hk3⟩
      have l3 := (hk3 (D + 1) (.inr (.inr rfl))).trans l2
      have h5 : D + 1 < W3.heap.size := (Array.getElem?_eq_some_iff.1 l3).1
      have fin : ∀ (st : LoopState) (p : Option Code), (W3.putObj (D + 1) (.loop (rec st p))).heap[D + 1]? = some (.loop (rec st p)) ∧ (W3.putObj (D + 1) (.loop (rec st p))).heap[D]? = some (.deferred (some [])) ∧ W.heap.size ≤ (W3.putObj (D + 1) (.loop (rec st p))).heap.size ∧ ∀ k, T k → (W3.putObj (D + 1) (.loop (rec st p))).heap[k]? = W.heap[k]? := fun st p => by
        refine ⟨World.putObj_heap_same h5, (World.putObj_heap_other (by omega)).trans ((hk3 D (.inr (.inl rfl))).trans k2), by simp; omega, fun k hTk => ?_⟩
        have hne : k ≠ D + 1 := fun e => by have := hT k hTk; omega
        exact (World.putObj_heap_other hne).trans ((hk3 k (.inl hTk)).trans (e2 k hne))
      rcases hex with ⟨rfl, hi3⟩ | ⟨rfl, hi3⟩
      · have hr := run_endRound (P := P) none l3
        have hre : ({ { rec .ready none with state := .busy } with state := if (none : Option Code).isNone then .ready else .done, pending := none } : Loop) = rec .ready none := by rw [hrec]; rfl
        rw [hre] at hr
        obtain ⟨f1, f2, f3, f4⟩ := fin .ready none
        exact ⟨_, _, hr, .inl ⟨rfl, hI _ _ _ hi3 (off_putObj W3 (D + 1) _ (.inr (.inr rfl))), f1, f2⟩, f3, f4⟩
      · have hr := run_endRound (P := P) (some .ret) l3
        have hre : ({ { rec .ready none with state := .busy } with state := if (some Code.ret : Option Code).isNone then .ready else .done, pending := some .ret } : Loop) = rec .done (some .ret) := by rw [hrec]; rfl
        rw [hre] at hr
        obtain ⟨f1, f2, f3, f4⟩ := fin .done (some .ret)
        exact ⟨_, _, hr, .inr ⟨rfl, hI' _ _ _ hi3 (off_putObj W3 (D + 1) _ (.inr (.inr rfl))), f1, f2⟩, f3, f4⟩
    · rintro e W2 ⟨⟨v, rfl⟩, (⟨hi, hl, hk⟩ | ⟨pre, x, post, hx, hi, hl, hk⟩)⟩
      · have he := run_endLoop (P := P) hl (by rw [hrec]; simp)
        have hp : (rec .ready none).pending = none := by rw [hrec]
        rw [hp] at he
        exact ⟨none, _, he, hdone _ (hI _ _ _ hi (off_putObj W2 (D + 1) _ (.inr (.inr rfl)))) ((World.putObj_heap_other (by omega)).trans hk)⟩
      · have he := run_endLoop (P := P) hl (by rw [hrec]; simp)
        have hp : (rec .done (some .ret)).pending = some .ret := by rw [hrec]
        rw [hp] at he
        exact ⟨some .ret, _, he, wpIn_ret (hstop pre x post _ hx (hI' _ _ _ hi (off_putObj W2 (D + 1) _ (.inr (.inr rfl)))) ((World.putObj_heap_other (by omega)).trans hk))⟩
end Go.Proofs.YtibbnijicdijnaaGreatDoor

namespace Go.Proofs.YtibbnijicdijnaaGreatDoor
open Go.RowKit

theorem opsT_take (L : List OpL) (i : Nat) (hi : i < L.length) : opsT (L.take (i + 1)) = opsT (L.take i) ++ opT L[i] := by
  unfold opsT
  rw [List.take_succ_eq_append_getElem hi, List.flatMap_append]
  simp
theorem opsT_le (L : List OpL) (i : Nat) (hi : i < L.length) : tot (opsT (L.take i)) + tot (opT L[i]) ≤ tot (opsT L) := by
  have e : opsT L = opsT (L.take (i + 1)) ++ opsT (L.drop (i + 1)) := by
    unfold opsT
    rw [← List.flatMap_append, List.take_append_drop]
  rw [e, opsT_take L i hi, tot_app, tot_app]
  omega

set_option maxRecDepth 10000 in
set_option maxHeartbeats 4000000 in
theorem ops_wr {B b : Nat} {l : List UInt8} (d : SL) (vo vp vl vi : Value) (w : World) (h : PageAt B b l w) (hs : SlE B w d vo vp vl vi) (hr : ∀ o ∈ d.ops, -9223372036854775808 ≤ o.2.2 ∧ o.2.2 ≤ 9223372036854775807) (hl : l.length + tot (opsT d.ops) ≤ 900000000) (hBw : B ≤ w.heap.size) (hg : Gl w) (hB : 12 ≤ B) : Calls Tryz.prog 86 #[.pointer (some ⟨b, 0, none⟩), .agg (slC d vo vp vl vi)] w (WrO B b (wordsP (opsT d.ops) l) w) := by
  obtain ⟨W, hW⟩ : ∃ W, w.alloc (.cells (slC d vo vp vl vi) 45) = W := ⟨_, rfl⟩
  have hbW : Below w.heap.size w W := by rw [← hW]; exact (Below.refl _ _).alloc (Nat.le_refl _) _
  have HW : Hid (Kq B w W) := Kq.of_below hbW hBw
  have HPW : Hid (PageAt B b l W) := page_below h hbW
  have gW : W.heap[w.heap.size]? = some (.cells (slC d vo vp vl vi) 45 (0, 0)) := by rw [← hW]; exact heap_alloc_new w _
  have HR : Hid (RdE B w vo d.ops.length (opsC d.ops)) := hs.o
  have HG : Hid (Gl w) := hg
  have HRg : Hid (∀ o ∈ d.ops, -9223372036854775808 ≤ o.2.2 ∧ o.2.2 ≤ 9223372036854775807) := hr
  have HL : Hid (l.length + tot (opsT d.ops) ≤ 900000000) := hl
  have c2 := cell_of gW 2
  obtain ⟨ao, co, rfl, hn, _⟩ := hs.o
  obtain ⟨ap, cp, rfl, _, _⟩ := hs.p
  obtain ⟨al, cl, rfl, _, _⟩ := hs.l
  obtain ⟨ai, ci, rfl, _, _⟩ := hs.i
  unfold slC at hW
  simp only [slC] at c2
  dsimp at c2
  unfold WrO slC
  clear h hs hg hr hl hbW gW
  go_enter Tryz.func86, Tryz.ntmps86
  go_wp2_with fail
  go_loopw [9] (fun iv wr => ∃ i : Nat, iv = .int .i64 (i : Int) ∧ i ≤ d.ops.length ∧ Hid (PageAt B b (wordsP (opsT (d.ops.take i)) l) wr ∧ Kq B w wr)) (fun iv _ => d.ops.length - (intOf iv).toNat)
  case atStart => exact ⟨0, rfl, Nat.zero_le _, HPW.out, HW.out⟩
  case round =>
    obtain ⟨i, rfl, hi, HP⟩ := hrel
    by_cases hin : i < d.ops.length
    · have hiI : (i : Int) < (d.ops.length : Int) := by omega
      obtain ⟨g, off, rfl, hce⟩ := (HR.out.next HP.out.2).cell i hin
      obtain ⟨p0, p1, p2⟩ := ops_get d.ops i hin
      have d0 : wr.cell? ⟨g, off + i * 3, none⟩ = some (.int .i64 d.ops[i].1) := hce _ _ p0
      have d1 : wr.cell? ⟨g, off + i * 3 + 1, none⟩ = some (.string (txtOf d.ops[i].2.1)) := hce _ _ p1
      have d2 : wr.cell? ⟨g, off + i * 3 + 2, none⟩ = some (.int .i64 d.ops[i].2.2) := hce _ _ p2
      have hrg := HRg.out d.ops[i] (List.getElem_mem hin)
      have HN0 := opsT_take d.ops i hin
      have hle := opsT_le d.ops i hin
      obtain ⟨o, ho⟩ : ∃ o, d.ops[i] = o := ⟨_, rfl⟩
      rw [ho] at d0 d1 d2 hrg HN0 hle
      obtain ⟨k, n, z⟩ := o
      obtain ⟨m, hm⟩ : ∃ m, wordsP (opsT (d.ops.take i)) l = m := ⟨_, rfl⟩
      have HN : Hid (wordsP (opsT (d.ops.take (i + 1))) l = wordsP (opT (k, n, z)) m) := by
        show _ = _
        rw [HN0, words_app, hm]
      have hml : m.length + tot (opT (k, n, z)) ≤ 900000000 := by
        have h1 := words_len (opsT (d.ops.take i)) l
        have := HL.out
        rw [hm] at h1
        omega
      have hBr : B ≤ wr.heap.size := Nat.le_trans hBw HP.out.2.low.size
      obtain ⟨X, hX⟩ : ∃ X, wr.alloc (.cells #[.int .i64 k, .string (txtOf n), .int .i64 z] 84) = X := ⟨_, rfl⟩
      have hbX : Below wr.heap.size wr X := by rw [← hX]; exact (Below.refl _ _).alloc (Nat.le_refl _) _
      have gX : X.heap[wr.heap.size]? = some (.cells #[.int .i64 k, .string (txtOf n), .int .i64 z] 84 (0, 0)) := by rw [← hX]; exact heap_alloc_new wr _
      have HX : Hid (PageAt B b m X ∧ Kq B w X) := ⟨by rw [← hm]; exact page_below HP.out.1 hbX, HP.out.2.trans (Kq.of_below hbX hBr)⟩
      have HC : Hid (Calls Tryz.prog 121 #[.pointer (some ⟨b, 0, none⟩), .agg #[.int .i64 k, .string (txtOf n), .int .i64 z]] X (WrO B b (wordsP (opT (k, n, z)) m) X)) := op_wr k n z X HX.out.1 hml hrg (Nat.le_trans hBw HX.out.2.low.size) (HG.out.kq HX.out.2 hB) hB
      have e0 := cell_of gX 0
      have e1 := cell_of gX 1
      have e2 := cell_of gX 2
      dsimp at e0 e1 e2
      clear hbX gX HN0 hle hm hml hce p0 p1 p2 ho
      go_wp2_with fail
      refine calls_at HC.out (by with_reducible rfl) (by with_reducible rfl) ?_
      rintro e w2 ⟨rfl, hp2, hk2⟩
      have H2 : Hid (PageAt B b (wordsP (opsT (d.ops.take (i + 1))) l) w2 ∧ Kq B w w2) := ⟨by rw [HN.out]; exact hp2, HX.out.2.trans hk2⟩
      clear hp2 hk2
      go_wp2_with fail
      go_roundw
      case rel => exact ⟨i + 1, by go_num, hin, H2⟩
      case measure => simp [intOf]; omega
    · have hiI : ¬ (i : Int) < (d.ops.length : Int) := by omega
      have HE : Hid (PageAt B b (wordsP (opsT d.ops) l) wr ∧ Kq B w wr) := by
        have := HP.out
        rw [List.take_of_length_le (by omega)] at this
        exact this
      go_wp2_with fail
      go_end0
      exact ⟨rfl, HE.out⟩
end Go.Proofs.YtibbnijicdijnaaGreatDoor

namespace Go.Proofs.YtibbnijicdijnaaGreatDoor
open Go.RowKit

theorem wrt_ops : Wrt 86 fun d => opsT d.ops := fun _ _ _ d vo vp vl vi w h hs hi hl hBw hg hB => ops_wr d vo vp vl vi w h hs hi.o hl hBw hg hB
/-- Steps, by their writers. -/
def wrF (f : FuncId) (d : SL) : List (List UInt8) :=
  if f = 84 then [d.n] else if f = 86 then opsT d.ops else if f = 88 then rowT d.pcs d.deg ++ d.ids else if f = 90 then d.ids ++ rowT d.pcs d.deg
  else if f = 92 then d.lits.map litT else if f = 94 then d.ids else if f = 97 then kindT claimsL wrC d.ends d else []
theorem tabF (k : Int) : TabW formsL wrF k where
  leaf := by
    intro f hf _
    simp only [formsL, List.mem_cons, List.not_mem_nil, or_false] at hf
    rcases hf with rfl | rfl | rfl | rfl | rfl | rfl | rfl | rfl | rfl | rfl | rfl | rfl
    · exact wrt_nothing
    · exact wrt_size
    · exact wrt_ops
    · exact wrt_rup
    · exact wrt_equal
    · exact wrt_lits
    · exact wrt_lits
    · exact wrt_del
    · exact wrt_nothing
    · exact wrt_nothing
    · exact wrt_ends
    · exact wrt_nothing
  few := by decide
  ent := by
    intro f hf
    simp only [formsL, List.mem_cons, List.not_mem_nil, or_false] at hf
    rcases hf with rfl | rfl | rfl | rfl | rfl | rfl | rfl | rfl | rfl | rfl | rfl | rfl
    · exact Go.Proofs.enters_of Tryz.func82 (by kernel_rfl) rfl
    · exact Go.Proofs.enters_of Tryz.func84 (by kernel_rfl) rfl
    · exact Go.Proofs.enters_of Tryz.func86 (by kernel_rfl) rfl
    · exact Go.Proofs.enters_of Tryz.func88 (by kernel_rfl) rfl
    · exact Go.Proofs.enters_of Tryz.func90 (by kernel_rfl) rfl
    · exact Go.Proofs.enters_of Tryz.func92 (by kernel_rfl) rfl
    · exact Go.Proofs.enters_of Tryz.func92 (by kernel_rfl) rfl
    · exact Go.Proofs.enters_of Tryz.func94 (by kernel_rfl) rfl
    · exact Go.Proofs.enters_of Tryz.func82 (by kernel_rfl) rfl
    · exact Go.Proofs.enters_of Tryz.func82 (by kernel_rfl) rfl
    · exact Go.Proofs.enters_of Tryz.func97 (by kernel_rfl) rfl
    · exact Go.Proofs.enters_of Tryz.func82 (by kernel_rfl) rfl
/-- The words of a step's line. -/
def lnW (d : SL) : List (List UInt8) := kindT formsL wrF d.k d
/-- The line that write tells of a step. -/
def lnT (d : SL) : List UInt8 := wordsP (lnW d) []
end Go.Proofs.YtibbnijicdijnaaGreatDoor
