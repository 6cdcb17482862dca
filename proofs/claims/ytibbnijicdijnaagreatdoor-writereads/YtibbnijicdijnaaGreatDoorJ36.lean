/-
  Put together: PfKn, PfKnown, PfWr5, PfWr6, PfWr7, PfWr8.
-/
import Derived.Test.YtibbnijicdijnaaGreatDoorJ34
import Derived.Test.YtibbnijicdijnaaGreatDoorJ35
import Derived.Test.YtibbnijicdijnaaGreatDoorJ33
import Derived.Test.YtibbnijicdijnaaGreatDoorJ32
namespace Go.Proofs.YtibbnijicdijnaaGreatDoor
open Go.RowKit

theorem num_any (n : Int) (w : World) : Calls Tryz.prog 14 #[.int .i64 n] w fun e w' => e = .returned (.int .i64 n) ∧ w' = w := by
  go_enter Tryz.func14, Tryz.ntmps14
  go_wp2_with fail
  go_ret
  exact ⟨rfl, rfl⟩
def kt0 : List UInt8 := [112, 111, 108, 32, 51, 32, 52, 32, 43, 32, 50, 32, 100, 32, 120, 53, 32, 119, 32, 115, 32, 126, 120, 49, 32, 51, 32, 42, 32, 43]
def kd0 : SL := ⟨3, [], [(1, [51], 0), (1, [52], 0), (3, [], 0), (5, [50], 0), (7, [], 5), (6, [], 0), (2, [], -1), (4, [51], 0), (3, [], 0)], [], [], [], [], 0, [], []⟩
theorem kp0 : parseP kt0 = (kd0, 0) := by kernel_rfl
def kt1 : List UInt8 := [99, 111, 110, 99, 108, 117, 115, 105, 111, 110, 32, 66, 79, 85, 78, 68, 83, 32, 51, 32, 58, 32, 49, 55, 32, 51]
def kd1 : SL := ⟨9, [], [], [], [], [], [[49, 55]], 5, [51], [51]⟩
theorem kp1 : parseP kt1 = (kd1, 0) := by kernel_rfl
def kt2 : List UInt8 := [112, 111, 108, 32, 51, 32, 52, 32, 45]
def kd2 : SL := SL.zero
theorem kp2 : parseP kt2 = (kd2, 80) := by kernel_rfl
def kt3 : List UInt8 := [114, 117, 112, 32, 49, 32, 120, 49, 32, 62, 61, 32, 49]
def kd3 : SL := SL.zero
theorem kp3 : parseP kt3 = (kd3, 82) := by kernel_rfl
def kt4 : List UInt8 := [114, 117, 112, 32, 50, 32, 120, 49, 32, 45, 51, 32, 126, 120, 50, 32, 62, 61, 32, 48, 32, 59]
def kd4 : SL := ⟨4, [], [], [([50], 1), ([45, 51], -2)], [48], [], [], 0, [], []⟩
theorem kp4 : parseP kt4 = (kd4, 0) := by kernel_rfl
/-- A text that is read. -/
theorem kn_parse {x : List UInt8} {d : SL} {n : Int} (hp : parseP x = (d, n)) (hx : x.length ≤ 9000000) (hf : d.ops.length ≤ 9223372036854775807 ∧ d.pcs.length ≤ 9223372036854775807 ∧ d.lits.length ≤ 9223372036854775807 ∧ d.ids.length ≤ 9223372036854775807) (w : World) (hg : Gl w) : Calls Tryz.prog 18 #[.string (txtOf x)] w fun e w' => ∃ oa oc pa pc la lc ia ic, e = .returned (.tuple #[.agg #[.int .i64 d.k, .string (txtOf d.n), .slice oa d.ops.length oc, .slice pa d.pcs.length pc, .string (txtOf d.deg), .slice la d.lits.length lc, .slice ia d.ids.length ic, .int .i64 d.ends, .string (txtOf d.low), .string (txtOf d.high)], .int .i64 n]) ∧ SlR w' d (.slice oa d.ops.length oc) (.slice pa d.pcs.length pc) (.slice la d.lits.length lc) (.slice ia d.ids.length ic) ∧ Below w.heap.size w w' := by
  have := parse_any8 x w hx hg
  unfold PaOut at this
  rw [hp] at this
  refine this.mono fun e w' hq => ?_
  obtain ⟨vo, vp, vl, vi, q1, q2, q3⟩ := hq
  have r : SlR w' d vo vp vl vi := ⟨rd_of_own q2.o hf.1, rd_of_own q2.p hf.2.1, rd_of_own q2.l hf.2.2.1, rd_of_own q2.i hf.2.2.2⟩
  obtain ⟨oa, oc, rfl⟩ := own_slice q2.o
  obtain ⟨pa, pc, rfl⟩ := own_slice q2.p
  obtain ⟨la, lc, rfl⟩ := own_slice q2.l
  obtain ⟨ia, ic, rfl⟩ := own_slice q2.i
  exact ⟨oa, oc, pa, pc, la, lc, ia, ic, q1, r, q3⟩
def knW (_ : FuncId) (d : SL) : List (List UInt8) := rowT d.pcs d.deg ++ d.ids
theorem knTab : TabW formsL knW 4 where
  leaf := by
    intro f hf
    simp only [formsL, List.mem_cons, List.not_mem_nil, or_false] at hf
    rcases hf with rfl | rfl | rfl | rfl | rfl | rfl | rfl | rfl | rfl | rfl | rfl | rfl <;> intro h <;> first | exact wrt_rup | exact absurd h (by decide)
  few := by decide
  ent := by
    intro f hf
    simp only [formsL, List.mem_cons, List.not_mem_nil, or_false] at hf
    rcases hf with rfl | rfl | rfl | rfl | rfl | rfl | rfl | rfl | rfl | rfl | rfl | rfl
    · exact Go.Proofs.enters_of Tryz.func82 (by kernel_rfl) rfl
    · exact Go.Proofs.enters_of Tryz.func84 (by kernel_rfl) rfl
    · exact Go.Proofs.enters_of Tryz.func86 (by kernel_rfl) rfl
    · exact Go.Proofs.enters_of Tryz.func88 (by kernel_rfl) rfl
    · exact Go.Proofs.enters_of Tryz.func90 (by kernel_rfl) rfl
    · exact Go.Proofs.enters_of Tryz.func92 (by kernel_rfl) rfl
    · exact Go.Proofs.enters_of Tryz.func92 (by kernel_rfl) rfl
    · exact Go.Proofs.enters_of Tryz.func94 (by kernel_rfl) rfl
    · exact Go.Proofs.enters_of Tryz.func82 (by kernel_rfl) rfl
    · exact Go.Proofs.enters_of Tryz.func82 (by kernel_rfl) rfl
    · exact Go.Proofs.enters_of Tryz.func97 (by kernel_rfl) rfl
    · exact Go.Proofs.enters_of Tryz.func82 (by kernel_rfl) rfl
theorem kn_line : wordsP (kindT formsL knW 4 kd4) [] = kt4 := by kernel_rfl
theorem kn_tot : tot (kindT formsL knW kd4.k kd4) = 23 := by kernel_rfl
theorem kn_pcs (w : World) : RdAt (w.alloc (.cells #[.string ⟨#[50]⟩, .int .i64 1, .string ⟨#[45, 51]⟩, .int .i64 (-2)] 82)) (.slice (some ⟨w.heap.size, 0, none⟩) 2 2) 2 (pcsC kd4.pcs) := by
  have hg := heap_alloc_new w (.cells #[.string ⟨#[50]⟩, .int .i64 1, .string ⟨#[45, 51]⟩, .int .i64 (-2)] 82)
  refine ⟨_, _, rfl, by omega, fun _ => ⟨w.heap.size, 0, rfl, (Array.getElem?_eq_some_iff.1 hg).1, fun j u hu => ?_⟩⟩
  rw [Nat.zero_add, cell_of hg]
  rw [show pcsC kd4.pcs = [.string ⟨#[50]⟩, .int .i64 1, .string ⟨#[45, 51]⟩, .int .i64 (-2)] from by kernel_rfl] at hu
  simpa using hu
theorem kn_nil (w : World) (xs : List Value) : RdAt w (.slice none 0 0) 0 xs := ⟨none, 0, rfl, by omega, fun h => absurd h (Nat.lt_irrefl _)⟩
/-- Print of the chapter's step. -/
theorem kn_print (w : World) (hg : Gl w) (hB : 12 ≤ w.heap.size) : Calls Tryz.prog 13 #[.agg #[.int .i64 4, .string ⟨#[]⟩, .slice none 0 0, .slice (some ⟨w.heap.size, 0, none⟩) 2 2, .string ⟨#[48]⟩, .slice none 0 0, .slice none 0 0, .int .i64 0, .string ⟨#[]⟩, .string ⟨#[]⟩]] (w.alloc (.cells #[.string ⟨#[50]⟩, .int .i64 1, .string ⟨#[45, 51]⟩, .int .i64 (-2)] 82)) fun e w' => e = .returned (.tuple #[.string ⟨#[114, 117, 112, 32, 50, 32, 120, 49, 32, 45, 51, 32, 126, 120, 50, 32, 62, 61, 32, 48, 32, 59]⟩, .int .i64 0]) ∧ Below w.heap.size w w' := by
  have hb : Below w.heap.size w (w.alloc (.cells #[.string ⟨#[50]⟩, .int .i64 1, .string ⟨#[45, 51]⟩, .int .i64 (-2)] 82)) := (Below.refl _ _).alloc (Nat.le_refl _) _
  refine (print_eq kd4 knTab (.slice none 0 0) (.slice (some ⟨w.heap.size, 0, none⟩) 2 2) (.slice none 0 0) (.slice none 0 0) _ ⟨kn_nil _ _, kn_pcs w, kn_nil _ _, kn_nil _ _⟩ ⟨?_, ?_, ?_⟩ (by rw [kn_tot]; decide) kt4 kn_line kp4 (hg.next hb) (Nat.le_trans hB hb.size)).mono fun e w' hq => ⟨hq.1, bl_next hb hq.2⟩
  · intro x hx
    simp only [kd4, List.mem_cons, List.not_mem_nil, or_false] at hx
    rcases hx with rfl | rfl <;> decide
  · intro x hx
    exact absurd hx (List.not_mem_nil)
  · intro x hx
    exact absurd hx (List.not_mem_nil)
end Go.Proofs.YtibbnijicdijnaaGreatDoor

namespace Go.Proofs.YtibbnijicdijnaaGreatDoor
open Go.RowKit

theorem Gl.to {B : Nat} {w w' : World} (h : Gl w) (k : Below B w w') (hB : 12 ≤ B) : Gl w' := h.below k hB

set_option maxRecDepth 20000 in
set_option maxHeartbeats 4000000 in
theorem known_any (w : World) (hg : Gl w) (hB : 12 ≤ w.heap.size) : Calls Tryz.prog 7 #[] w fun e w' => e = .returned (.bool true) ∧ Below w.heap.size w w' := by
  have H0 : Hid (∀ w', Below w.heap.size w w' → Calls Tryz.prog 18 #[.string ⟨#[112, 111, 108, 32, 51, 32, 52, 32, 43, 32, 50, 32, 100, 32, 120, 53, 32, 119, 32, 115, 32, 126, 120, 49, 32, 51, 32, 42, 32, 43]⟩] w' fun e w2 => ∃ oa0 oc0 pa0 pc0 la0 lc0 ia0 ic0, e = .returned (.tuple #[.agg #[.int .i64 3, .string ⟨#[]⟩, .slice oa0 9 oc0, .slice pa0 0 pc0, .string ⟨#[]⟩, .slice la0 0 lc0, .slice ia0 0 ic0, .int .i64 0, .string ⟨#[]⟩, .string ⟨#[]⟩], .int .i64 0]) ∧ SlR w2 kd0 (.slice oa0 kd0.ops.length oc0) (.slice pa0 kd0.pcs.length pc0) (.slice la0 kd0.lits.length lc0) (.slice ia0 kd0.ids.length ic0) ∧ Below w'.heap.size w' w2) := fun w' hb => kn_parse kp0 (by decide) (by decide) w' (hg.to hb hB)
  have H1 : Hid (∀ w', Below w.heap.size w w' → Calls Tryz.prog 18 #[.string ⟨#[99, 111, 110, 99, 108, 117, 115, 105, 111, 110, 32, 66, 79, 85, 78, 68, 83, 32, 51, 32, 58, 32, 49, 55, 32, 51]⟩] w' fun e w2 => ∃ oa1 oc1 pa1 pc1 la1 lc1 ia1 ic1, e = .returned (.tuple #[.agg #[.int .i64 9, .string ⟨#[]⟩, .slice oa1 0 oc1, .slice pa1 0 pc1, .string ⟨#[]⟩, .slice la1 0 lc1, .slice ia1 1 ic1, .int .i64 5, .string ⟨#[51]⟩, .string ⟨#[51]⟩], .int .i64 0]) ∧ SlR w2 kd1 (.slice oa1 kd1.ops.length oc1) (.slice pa1 kd1.pcs.length pc1) (.slice la1 kd1.lits.length lc1) (.slice ia1 kd1.ids.length ic1) ∧ Below w'.heap.size w' w2) := fun w' hb => kn_parse kp1 (by decide) (by decide) w' (hg.to hb hB)
  have H2 : Hid (∀ w', Below w.heap.size w w' → Calls Tryz.prog 18 #[.string ⟨#[112, 111, 108, 32, 51, 32, 52, 32, 45]⟩] w' fun e w2 => ∃ oa2 oc2 pa2 pc2 la2 lc2 ia2 ic2, e = .returned (.tuple #[.agg #[.int .i64 0, .string ⟨#[]⟩, .slice oa2 0 oc2, .slice pa2 0 pc2, .string ⟨#[]⟩, .slice la2 0 lc2, .slice ia2 0 ic2, .int .i64 0, .string ⟨#[]⟩, .string ⟨#[]⟩], .int .i64 80]) ∧ SlR w2 kd2 (.slice oa2 kd2.ops.length oc2) (.slice pa2 kd2.pcs.length pc2) (.slice la2 kd2.lits.length lc2) (.slice ia2 kd2.ids.length ic2) ∧ Below w'.heap.size w' w2) := fun w' hb => kn_parse kp2 (by decide) (by decide) w' (hg.to hb hB)
  have H3 : Hid (∀ w', Below w.heap.size w w' → Calls Tryz.prog 18 #[.string ⟨#[114, 117, 112, 32, 49, 32, 120, 49, 32, 62, 61, 32, 49]⟩] w' fun e w2 => ∃ oa3 oc3 pa3 pc3 la3 lc3 ia3 ic3, e = .returned (.tuple #[.agg #[.int .i64 0, .string ⟨#[]⟩, .slice oa3 0 oc3, .slice pa3 0 pc3, .string ⟨#[]⟩, .slice la3 0 lc3, .slice ia3 0 ic3, .int .i64 0, .string ⟨#[]⟩, .string ⟨#[]⟩], .int .i64 82]) ∧ SlR w2 kd3 (.slice oa3 kd3.ops.length oc3) (.slice pa3 kd3.pcs.length pc3) (.slice la3 kd3.lits.length lc3) (.slice ia3 kd3.ids.length ic3) ∧ Below w'.heap.size w' w2) := fun w' hb => kn_parse kp3 (by decide) (by decide) w' (hg.to hb hB)
  have H4 : Hid (∀ w', Below w.heap.size w w' → Calls Tryz.prog 13 #[.agg #[.int .i64 4, .string ⟨#[]⟩, .slice none 0 0, .slice (some ⟨w'.heap.size, 0, none⟩) 2 2, .string ⟨#[48]⟩, .slice none 0 0, .slice none 0 0, .int .i64 0, .string ⟨#[]⟩, .string ⟨#[]⟩]] (w'.alloc (.cells #[.string ⟨#[50]⟩, .int .i64 1, .string ⟨#[45, 51]⟩, .int .i64 (-2)] 82)) fun e w2 => e = .returned (.tuple #[.string ⟨#[114, 117, 112, 32, 50, 32, 120, 49, 32, 45, 51, 32, 126, 120, 50, 32, 62, 61, 32, 48, 32, 59]⟩, .int .i64 0]) ∧ Below w'.heap.size w' w2) := fun w' hb => kn_print w' (hg.to hb hB) (Nat.le_trans hB hb.size)
  have HN : Hid (∀ n w', Calls Tryz.prog 14 #[.int .i64 n] w' fun e w2 => e = .returned (.int .i64 n) ∧ w2 = w') := num_any
  clear hg
  go_enter Tryz.func7, Tryz.ntmps7
  go_wp2_with fail
  refine calls_at (H0.out w (Below.refl _ _)) (by with_reducible rfl) (by with_reducible rfl) ?_
  rintro e u0 ⟨oa0, oc0, pa0, pc0, la0, lc0, ia0, ic0, rfl, h, hb⟩
  have HR0 : Hid (SlR u0 kd0 (.slice oa0 kd0.ops.length oc0) (.slice pa0 kd0.pcs.length pc0) (.slice la0 kd0.lits.length lc0) (.slice ia0 kd0.ids.length ic0)) := h
  have hbu : Below w.heap.size w u0 := hb
  have HU0 : Hid (Below w.heap.size w u0) := hbu
  have HH0 : Hid (Below w.heap.size w u0) := hb
  clear h hb hbu
  go_wp2_with fail
  have hbu := HU0.out
  have hb := HH0.out
  obtain ⟨V0, hV0⟩ : ∃ V, u0.alloc (.cells #[.int .i64 3, .string ⟨#[]⟩, .slice oa0 9 oc0, .slice pa0 0 pc0, .string ⟨#[]⟩, .slice la0 0 lc0, .slice ia0 0 ic0, .int .i64 0, .string ⟨#[]⟩, .string ⟨#[]⟩] 45) = V := ⟨_, rfl⟩
  have hbV : Below u0.heap.size u0 V0 := by rw [← hV0]; exact (Below.refl _ _).alloc (Nat.le_refl _) _
  have HB0 : Hid (Below w.heap.size w V0) := bl_next hbu hbV
  have HG0 : Hid (V0.heap[u0.heap.size]? = some (.cells #[.int .i64 3, .string ⟨#[]⟩, .slice oa0 9 oc0, .slice pa0 0 pc0, .string ⟨#[]⟩, .slice la0 0 lc0, .slice ia0 0 ic0, .int .i64 0, .string ⟨#[]⟩, .string ⟨#[]⟩] 45 (0, 0))) := by show _ = _; rw [← hV0]; exact heap_alloc_new u0 _
  have HS0 : Hid (Below u0.heap.size u0 V0) := hbV
  rw [hV0]
  clear hb hbu hbV hV0
  refine calls_at (H1.out V0 HB0.out) (by with_reducible rfl) (by with_reducible rfl) ?_
  rintro e u1 ⟨oa1, oc1, pa1, pc1, la1, lc1, ia1, ic1, rfl, h, hb⟩
  have HR1 : Hid (SlR u1 kd1 (.slice oa1 kd1.ops.length oc1) (.slice pa1 kd1.pcs.length pc1) (.slice la1 kd1.lits.length lc1) (.slice ia1 kd1.ids.length ic1)) := h
  have hbu : Below w.heap.size w u1 := bl_next HB0.out hb
  have HU1 : Hid (Below w.heap.size w u1) := hbu
  have HH1 : Hid (Below V0.heap.size V0 u1) := hb
  clear h hb hbu
  go_wp2_with fail
  have hbu := HU1.out
  have hb := HH1.out
  obtain ⟨V1, hV1⟩ : ∃ V, u1.alloc (.cells #[.int .i64 9, .string ⟨#[]⟩, .slice oa1 0 oc1, .slice pa1 0 pc1, .string ⟨#[]⟩, .slice la1 0 lc1, .slice ia1 1 ic1, .int .i64 5, .string ⟨#[51]⟩, .string ⟨#[51]⟩] 45) = V := ⟨_, rfl⟩
  have hbV : Below u1.heap.size u1 V1 := by rw [← hV1]; exact (Below.refl _ _).alloc (Nat.le_refl _) _
  have HB1 : Hid (Below w.heap.size w V1) := bl_next hbu hbV
  have HG1 : Hid (V1.heap[u1.heap.size]? = some (.cells #[.int .i64 9, .string ⟨#[]⟩, .slice oa1 0 oc1, .slice pa1 0 pc1, .string ⟨#[]⟩, .slice la1 0 lc1, .slice ia1 1 ic1, .int .i64 5, .string ⟨#[51]⟩, .string ⟨#[51]⟩] 45 (0, 0))) := by show _ = _; rw [← hV1]; exact heap_alloc_new u1 _
  have HQ01 : Hid (Below V0.heap.size V0 V1) := bl_next (bl_next (Below.refl _ _) hb) hbV
  have HS1 : Hid (Below u1.heap.size u1 V1) := hbV
  rw [hV1]
  clear hb hbu hbV hV1
  refine calls_at (H2.out V1 HB1.out) (by with_reducible rfl) (by with_reducible rfl) ?_
  rintro e u2 ⟨oa2, oc2, pa2, pc2, la2, lc2, ia2, ic2, rfl, h, hb⟩
  have HR2 : Hid (SlR u2 kd2 (.slice oa2 kd2.ops.length oc2) (.slice pa2 kd2.pcs.length pc2) (.slice la2 kd2.lits.length lc2) (.slice ia2 kd2.ids.length ic2)) := h
  have hbu : Below w.heap.size w u2 := bl_next HB1.out hb
  have HU2 : Hid (Below w.heap.size w u2) := hbu
  have HH2 : Hid (Below V1.heap.size V1 u2) := hb
  clear h hb hbu
  go_wp2_with fail
  have hbu := HU2.out
  have hb := HH2.out
  obtain ⟨V2, hV2⟩ : ∃ V, u2.alloc (.cells #[.int .i64 0, .string ⟨#[]⟩, .slice oa2 0 oc2, .slice pa2 0 pc2, .string ⟨#[]⟩, .slice la2 0 lc2, .slice ia2 0 ic2, .int .i64 0, .string ⟨#[]⟩, .string ⟨#[]⟩] 45) = V := ⟨_, rfl⟩
  have hbV : Below u2.heap.size u2 V2 := by rw [← hV2]; exact (Below.refl _ _).alloc (Nat.le_refl _) _
  have HB2 : Hid (Below w.heap.size w V2) := bl_next hbu hbV
  have HG2 : Hid (V2.heap[u2.heap.size]? = some (.cells #[.int .i64 0, .string ⟨#[]⟩, .slice oa2 0 oc2, .slice pa2 0 pc2, .string ⟨#[]⟩, .slice la2 0 lc2, .slice ia2 0 ic2, .int .i64 0, .string ⟨#[]⟩, .string ⟨#[]⟩] 45 (0, 0))) := by show _ = _; rw [← hV2]; exact heap_alloc_new u2 _
  have HQ02 : Hid (Below V0.heap.size V0 V2) := bl_next (bl_next HQ01.out hb) hbV
  have HQ12 : Hid (Below V1.heap.size V1 V2) := bl_next (bl_next (Below.refl _ _) hb) hbV
  rw [hV2]
  clear hb hbu hbV hV2
  refine calls_at (H3.out V2 HB2.out) (by with_reducible rfl) (by with_reducible rfl) ?_
  rintro e u3 ⟨oa3, oc3, pa3, pc3, la3, lc3, ia3, ic3, rfl, h, hb⟩
  have HR3 : Hid (SlR u3 kd3 (.slice oa3 kd3.ops.length oc3) (.slice pa3 kd3.pcs.length pc3) (.slice la3 kd3.lits.length lc3) (.slice ia3 kd3.ids.length ic3)) := h
  have hbu : Below w.heap.size w u3 := bl_next HB2.out hb
  have HU3 : Hid (Below w.heap.size w u3) := hbu
  have HH3 : Hid (Below V2.heap.size V2 u3) := hb
  clear h hb hbu
  go_wp2_with fail
  have hbu := HU3.out
  have hb := HH3.out
  obtain ⟨V3, hV3⟩ : ∃ V, u3.alloc (.cells #[.int .i64 0, .string ⟨#[]⟩, .slice oa3 0 oc3, .slice pa3 0 pc3, .string ⟨#[]⟩, .slice la3 0 lc3, .slice ia3 0 ic3, .int .i64 0, .string ⟨#[]⟩, .string ⟨#[]⟩] 45) = V := ⟨_, rfl⟩
  have hbV : Below u3.heap.size u3 V3 := by rw [← hV3]; exact (Below.refl _ _).alloc (Nat.le_refl _) _
  have HB3 : Hid (Below w.heap.size w V3) := bl_next hbu hbV
  have HG3 : Hid (V3.heap[u3.heap.size]? = some (.cells #[.int .i64 0, .string ⟨#[]⟩, .slice oa3 0 oc3, .slice pa3 0 pc3, .string ⟨#[]⟩, .slice la3 0 lc3, .slice ia3 0 ic3, .int .i64 0, .string ⟨#[]⟩, .string ⟨#[]⟩] 45 (0, 0))) := by show _ = _; rw [← hV3]; exact heap_alloc_new u3 _
  have HQ03 : Hid (Below V0.heap.size V0 V3) := bl_next (bl_next HQ02.out hb) hbV
  have HQ13 : Hid (Below V1.heap.size V1 V3) := bl_next (bl_next HQ12.out hb) hbV
  have HQ23 : Hid (Below V2.heap.size V2 V3) := bl_next (bl_next (Below.refl _ _) hb) hbV
  have hs3 : V3.heap.size = u3.heap.size + 1 := by rw [← hV3]; simp
  rw [hV3]
  clear hb hbu hbV hV3
  have H4' := H4.out V3 HB3.out
  rw [hs3] at H4'
  refine calls_at H4' (by with_reducible rfl) (by with_reducible rfl) ?_
  rintro e w5 ⟨rfl, hb5⟩
  rw [← hs3] at hb5
  clear H4' hs3
  have HB5 : Hid (Below w.heap.size w w5) := bl_next HB3.out hb5
  have q0 : Below V0.heap.size V0 w5 := bl_next HQ03.out hb5
  have q1 : Below V1.heap.size V1 w5 := bl_next HQ13.out hb5
  have g0 := (q0.block _ (Array.getElem?_eq_some_iff.1 HG0.out).1).trans HG0.out
  have g1 := (q1.block _ (Array.getElem?_eq_some_iff.1 HG1.out).1).trans HG1.out
  have r0 := (HR0.out.below (HS0.out)).below q0
  obtain ⟨a0, c0, e0, _, hc0⟩ := r0.o
  injection e0 with e1 e2 e3
  subst e1
  obtain ⟨g, off, rfl, _, hcell⟩ := hc0 (by decide)
  have x0 : w5.cell? ⟨g, off + 12, none⟩ = some (.int .i64 7) := hcell 12 _ (by kernel_rfl)
  have x1 : w5.cell? ⟨g, off + 12 + 1, none⟩ = some (.string ⟨#[]⟩) := hcell 13 _ (by kernel_rfl)
  have x2 : w5.cell? ⟨g, off + 12 + 2, none⟩ = some (.int .i64 5) := hcell 14 _ (by kernel_rfl)
  have y0 : w5.cell? ⟨g, off + 18, none⟩ = some (.int .i64 2) := hcell 18 _ (by kernel_rfl)
  have y1 : w5.cell? ⟨g, off + 18 + 1, none⟩ = some (.string ⟨#[]⟩) := hcell 19 _ (by kernel_rfl)
  have y2 : w5.cell? ⟨g, off + 18 + 2, none⟩ = some (.int .i64 (-1)) := hcell 20 _ (by kernel_rfl)
  have m2 := cell_of g0 2
  have n6 := cell_of g1 6
  have n8 := cell_of g1 8
  have n9 := cell_of g1 9
  dsimp at m2 n6 n8 n9
  have hq1 : ∀ W, (binOp .eql 84 (.agg #[.int .i64 7, .string ⟨#[]⟩, .int .i64 5]) (.agg #[.int .i64 7, .string ⟨#[]⟩, .int .i64 5])).run Tryz.prog W = .ok (.bool true) W := fun W => by rw [op_eql]; simp
  have hq2 : ∀ W, (binOp .eql 84 (.agg #[.int .i64 2, .string ⟨#[]⟩, .int .i64 (-1)]) (.agg #[.int .i64 2, .string ⟨#[]⟩, .int .i64 (-1)])).run Tryz.prog W = .ok (.bool true) W := fun W => by rw [op_eql]; simp
  clear hb5 q0 q1 g0 g1 r0 hcell hc0
  go_wp2_with fail
  refine calls_at (HN.out _ _) (by with_reducible rfl) (by with_reducible rfl) ?_
  rintro e w6 ⟨rfl, rfl⟩
  go_wp2_with fail
  refine calls_at (HN.out _ _) (by with_reducible rfl) (by with_reducible rfl) ?_
  rintro e w7 ⟨rfl, rfl⟩
  go_wp2_with fail
  refine calls_at (HN.out _ _) (by with_reducible rfl) (by with_reducible rfl) ?_
  rintro e w8 ⟨rfl, rfl⟩
  go_wp2_with fail
  refine calls_at (HN.out _ _) (by with_reducible rfl) (by with_reducible rfl) ?_
  rintro e w9 ⟨rfl, rfl⟩
  go_wp2_with fail
  refine calls_at (HN.out _ _) (by with_reducible rfl) (by with_reducible rfl) ?_
  rintro e w10 ⟨rfl, rfl⟩
  go_wp2_with fail
  go_ret
  exact ⟨rfl, HB5.out⟩
end Go.Proofs.YtibbnijicdijnaaGreatDoor

namespace Go.Proofs.YtibbnijicdijnaaGreatDoor
open Go.RowKit

/-- Conclusions, by their writers. -/
def wrC (f : FuncId) (d : SL) : List (List UInt8) := if f = 154 then leanT d.ids else if f = 156 then (d.low :: leanT d.ids) ++ [d.high] else if f = 158 then d.high :: leanT d.ids else []
theorem tabC (k : Int) : TabW claimsL wrC k where
  leaf := by
    intro f hf _
    simp only [claimsL, List.mem_cons, List.not_mem_nil, or_false] at hf
    rcases hf with rfl | rfl | rfl | rfl | rfl
    · exact wrt_nothing
    · exact wrt_unsat
    · exact wrt_nothing
    · exact wrt_bounds
    · exact wrt_all
  few := by decide
  ent := by
    intro f hf
    simp only [claimsL, List.mem_cons, List.not_mem_nil, or_false] at hf
    rcases hf with rfl | rfl | rfl | rfl | rfl
    · exact Go.Proofs.enters_of Tryz.func82 (by kernel_rfl) rfl
    · exact Go.Proofs.enters_of Tryz.func154 (by kernel_rfl) rfl
    · exact Go.Proofs.enters_of Tryz.func82 (by kernel_rfl) rfl
    · exact Go.Proofs.enters_of Tryz.func156 (by kernel_rfl) rfl
    · exact Go.Proofs.enters_of Tryz.func158 (by kernel_rfl) rfl

set_option maxRecDepth 10000 in
set_option maxHeartbeats 2000000 in
theorem wrt_ends : Wrt 97 fun d => kindT claimsL wrC d.ends d := by
  intro B b l d vo vp vl vi w h hs hi hl hBw hg hB
  obtain ⟨V, hV⟩ : ∃ V, w.alloc (.cells (slC d vo vp vl vi) 45) = V := ⟨_, rfl⟩
  have hbV : Below w.heap.size w V := by rw [← hV]; exact (Below.refl _ _).alloc (Nat.le_refl _) _
  have kV : Kq B w V.drew := Kq.of_below hbV.drew hBw
  have hBV : B ≤ V.drew.heap.size := Nat.le_trans hBw kV.low.size
  have hP : PageAt B b l V.drew := page_below h hbV.drew
  have HBx : Hid (∀ w', Kq B V.drew w' → w'.cell? ⟨w.heap.size, 0, none⟩ = some (.int .i64 d.k) ∧ w'.cell? ⟨w.heap.size, 1, none⟩ = some (.string (txtOf d.n)) ∧ w'.cell? ⟨w.heap.size, 2, none⟩ = some (vo) ∧ w'.cell? ⟨w.heap.size, 3, none⟩ = some (vp) ∧ w'.cell? ⟨w.heap.size, 4, none⟩ = some (.string (txtOf d.deg)) ∧ w'.cell? ⟨w.heap.size, 5, none⟩ = some (vl) ∧ w'.cell? ⟨w.heap.size, 6, none⟩ = some (vi) ∧ w'.cell? ⟨w.heap.size, 7, none⟩ = some (.int .i64 d.ends) ∧ w'.cell? ⟨w.heap.size, 8, none⟩ = some (.string (txtOf d.low)) ∧ w'.cell? ⟨w.heap.size, 9, none⟩ = some (.string (txtOf d.high))) := fun w' k => by
    have gB := k.other _ _ _ _ (show V.drew.heap[w.heap.size]? = some (.cells (slC d vo vp vl vi) 45 (0, 0)) by show V.heap[w.heap.size]? = _; rw [← hV]; exact heap_alloc_new w _) (by decide) (by decide)
    exact ⟨cell_of gB 0, cell_of gB 1, cell_of gB 2, cell_of gB 3, cell_of gB 4, cell_of gB 5, cell_of gB 6, cell_of gB 7, cell_of gB 8, cell_of gB 9⟩
  have HF : Hid (Calls Tryz.prog 130 #[] V.drew fun e w' => e = .returned (.slice (some ⟨V.drew.heap.size, 0, none⟩) 5 5) ∧ w'.heap[V.drew.heap.size]? = some (.cells (fmsC claimsL).toArray 154 (0, 0)) ∧ Below V.drew.heap.size V.drew w') := (claims_any V.drew).mono fun e w' hq => ⟨hq.1, by rw [hq.2]; exact heap_alloc_new V.drew _, by rw [hq.2]; exact (Below.refl _ _).alloc (Nat.le_refl _) _⟩
  have HPk : Hid (∀ w', w'.heap[V.drew.heap.size]? = some (.cells (fmsC claimsL).toArray 154 (0, 0)) → Below V.drew.heap.size V.drew w' → Calls Tryz.prog 60 #[.pointer (some ⟨b, 0, none⟩), .slice (some ⟨V.drew.heap.size, 0, none⟩) 5 5, .int .i64 d.ends, .agg (slC d vo vp vl vi)] w' (WrO B b (wordsP (kindT claimsL wrC d.ends d) l) w')) := fun w' hg1 hb1 => by
    have k1 := kV.trans (Kq.of_below hb1 hBV)
    exact ppick_any d.ends (tabC d.ends) d vo vp vl vi w' (page_below hP hb1) hg1 (hs.next k1) hi hl (Nat.le_trans hBw k1.low.size) (hg.kq k1 hB) hB
  have HKV : Hid (Kq B w V.drew) := kV
  obtain ⟨Z, hZ⟩ : ∃ Z, wordsP (kindT claimsL wrC d.ends d) l = Z := ⟨_, rfl⟩
  rw [hZ] at HPk
  unfold WrO
  show Calls _ _ _ _ fun e w' => e = _ ∧ PageAt B b (wordsP (kindT claimsL wrC d.ends d) l) w' ∧ Kq B w w'
  rw [hZ]
  unfold slC at hV HPk
  unfold slC
  obtain ⟨ao, co, rfl, _, _⟩ := hs.o
  obtain ⟨ap, cp, rfl, _, _⟩ := hs.p
  obtain ⟨al, cl, rfl, _, _⟩ := hs.l
  obtain ⟨ai, ci, rfl, _, _⟩ := hs.i
  clear hs hi hl hg h hbV kV hP hZ
  go_enter Tryz.func97, Tryz.ntmps97
  go_wp2_with fail
  refine wp_region_T (fun w' => w'.cell? ⟨w.heap.size, 0, none⟩ = some (.int .i64 d.k) ∧ w'.cell? ⟨w.heap.size, 1, none⟩ = some (.string (txtOf d.n)) ∧ w'.cell? ⟨w.heap.size, 2, none⟩ = some (.slice ao d.ops.length co) ∧ w'.cell? ⟨w.heap.size, 3, none⟩ = some (.slice ap d.pcs.length cp) ∧ w'.cell? ⟨w.heap.size, 4, none⟩ = some (.string (txtOf d.deg)) ∧ w'.cell? ⟨w.heap.size, 5, none⟩ = some (.slice al d.lits.length cl) ∧ w'.cell? ⟨w.heap.size, 6, none⟩ = some (.slice ai d.ids.length ci) ∧ w'.cell? ⟨w.heap.size, 7, none⟩ = some (.int .i64 d.ends) ∧ w'.cell? ⟨w.heap.size, 8, none⟩ = some (.string (txtOf d.low)) ∧ w'.cell? ⟨w.heap.size, 9, none⟩ = some (.string (txtOf d.high))) (fun _ => True) [] (by kernel_rfl) ⟨HBx.out _ (Kq.refl _ _), trivial⟩ (fun hHeld => ?_)
  clear hV
  generalize V.drew = U at hHeld HBx HF HPk HKV hBV ⊢
  refine wpAnyT_takeB (i := 0) (oi := ⟨some 4, .move (.tmp 0), _, _, _, _⟩) (v := ?v0) rfl (by kernel_rfl) (by kernel_rfl) (by kernel_rfl) (by kernel_rfl) (fun _ _ _ h => h) (Or.inl ⟨by rfl, ?hy0⟩) (by assumption) ?rest0
  case hy0 => (intro w hSw; (try dsimp only at hSw); obtain ⟨s0, s1, s2, s3, s4, s5, s6, s7, s8, s9⟩ := hSw; go_simp; try (with_reducible rfl))
  try simp only [Act.put, List.setIfInBounds_toArray, List.set_cons_zero, List.set_cons_succ]
  refine wpAnyT_takeB (i := 2) (oi := ⟨some 6, .fieldAddr 45 (.tmp 3) 6, _, _, _, _⟩) (v := ?v2) rfl (by kernel_rfl) (by kernel_rfl) (by kernel_rfl) (by kernel_rfl) (fun _ _ _ h => h) (Or.inl ⟨by rfl, ?hy2⟩) (by assumption) ?rest2
  case hy2 => (intro w hSw; (try dsimp only at hSw); obtain ⟨s0, s1, s2, s3, s4, s5, s6, s7, s8, s9⟩ := hSw; go_simp; try (with_reducible rfl))
  try simp only [Act.put, List.setIfInBounds_toArray, List.set_cons_zero, List.set_cons_succ]
  refine wpAnyT_takeB (i := 3) (oi := ⟨some 7, .load 3 (.tmp 6), _, _, _, _⟩) (v := ?v3) rfl (by kernel_rfl) (by kernel_rfl) (by kernel_rfl) (by kernel_rfl) (fun _ _ _ h => h) (Or.inl ⟨by rfl, ?hy3⟩) (by assumption) ?rest3
  case hy3 => (intro w hSw; (try dsimp only at hSw); obtain ⟨s0, s1, s2, s3, s4, s5, s6, s7, s8, s9⟩ := hSw; go_simp; try (with_reducible rfl))
  try simp only [Act.put, List.setIfInBounds_toArray, List.set_cons_zero, List.set_cons_succ]
  refine wpAnyT_takeB (i := 4) (oi := ⟨some 8, .load 45 (.tmp 3), _, _, _, _⟩) (v := ?v4) rfl (by kernel_rfl) (by kernel_rfl) (by kernel_rfl) (by kernel_rfl) (fun _ _ _ h => h) (Or.inl ⟨by rfl, ?hy4⟩) (by assumption) ?rest4
  case hy4 => (intro w hSw; (try dsimp only at hSw); obtain ⟨s0, s1, s2, s3, s4, s5, s6, s7, s8, s9⟩ := hSw; go_simp; try (with_reducible rfl))
  try simp only [Act.put, List.setIfInBounds_toArray, List.set_cons_zero, List.set_cons_succ]
  clear hHeld
  refine wpAnyT_one (i := 1) (o := ⟨some 5, .call { callee := .value (.func 130), args := #[], argTypes := #[] }, _, _, _, _⟩) (by kernel_rfl) rfl (fun K hK => ?_)
  go_simp
  refine calls_at HF.out (by with_reducible rfl) (by with_reducible rfl) ?_
  rintro e w1 ⟨rfl, hg1, hb1⟩
  have H1 : Hid (w1.heap[U.heap.size]? = some (.cells (fmsC claimsL).toArray 154 (0, 0)) ∧ Below U.heap.size U w1) := ⟨hg1, hb1⟩
  clear hg1 hb1
  go_wp2_with fail
  refine hK.out _ _ ⟨HBx.out _ (Kq.of_below H1.out.2 hBV), fun _ => trivial⟩ ?_
  clear hK K
  try simp only [Act.put, List.setIfInBounds_toArray, List.set_cons_zero, List.set_cons_succ]
  refine wpAnyT_one (i := 5) (o := ⟨some 9, .call { callee := .value (.func 60), args := #[(.tmp 4), (.tmp 5), (.tmp 7), (.tmp 8)], argTypes := #[123, 127, 3, 45] }, _, _, _, _⟩) (by kernel_rfl) rfl (fun K hK => ?_)
  go_simp
  refine calls_at (HPk.out w1 H1.out.1 H1.out.2) (by with_reducible rfl) (by with_reducible rfl) ?_
  rintro e w2 ⟨rfl, hp2, hk2⟩
  have H2 : Hid (PageAt B b Z w2 ∧ Kq B U w2) := ⟨hp2, (Kq.of_below H1.out.2 hBV).trans hk2⟩
  clear hp2 hk2
  go_wp2_with fail
  refine hK.out _ _ ⟨HBx.out _ H2.out.2, fun _ => trivial⟩ ?_
  clear hK K
  try simp only [Act.put, List.setIfInBounds_toArray, List.set_cons_zero, List.set_cons_succ]
  refine wpAnyT_done (by kernel_rfl) ?_ _
  go_wp2_with fail
  go_end0
  exact ⟨rfl, H2.out.1, HKV.out.trans H2.out.2⟩
end Go.Proofs.YtibbnijicdijnaaGreatDoor

namespace Go.Proofs.YtibbnijicdijnaaGreatDoor
open Go.RowKit

/-- An operation's words. -/
def opT (o : OpL) : List (List UInt8) := if o.1 = 1 then [o.2.1] else if o.1 = 2 then [litT o.2.2] else if o.1 = 3 then [[43]] else if o.1 = 4 then [o.2.1, [42]] else if o.1 = 5 then [o.2.1, [100]] else if o.1 = 6 then [[115]] else if o.1 = 7 then [litT o.2.2, [119]] else []
theorem two_texts {B : Nat} (w : World) (x y : List UInt8) : RdE B (w.alloc (.cells #[.string (txtOf x), .string (txtOf y)] 9)) (.slice (some ⟨w.heap.size, 0, none⟩) 2 2) 2 ([x, y].map fun x => .string (txtOf x)) := by
  have hg := heap_alloc_new w (.cells #[.string (txtOf x), .string (txtOf y)] 9)
  refine ⟨_, _, rfl, by omega, fun _ => ⟨w.heap.size, 0, rfl, .inr ⟨_, _, _, hg, by decide, by decide⟩, (Array.getElem?_eq_some_iff.1 hg).1, fun j u hu => ?_⟩⟩
  rw [Nat.zero_add, cell_of hg]
  simpa using hu
theorem words_two {B b : Nat} {l : List UInt8} (x y : List UInt8) (w : World) (h : PageAt B b l w) (hl : l.length + tot [x, y] ≤ 900000000) (hBw : B ≤ w.heap.size) : Calls Tryz.prog 80 #[.pointer (some ⟨b, 0, none⟩), .slice (some ⟨w.heap.size, 0, none⟩) 2 2] (w.alloc (.cells #[.string (txtOf x), .string (txtOf y)] 9)) fun e w' => e = .returned (.pointer (some ⟨b, 0, none⟩)) ∧ PageAt B b (wordsP [x, y] l) w' ∧ Kq B w w' := by
  have hb : Below w.heap.size w (w.alloc (.cells #[.string (txtOf x), .string (txtOf y)] 9)) := (Below.refl _ _).alloc (Nat.le_refl _) _
  refine (words_any [x, y] _ _ (page_below h hb) (two_texts w x y) hl (Nat.le_trans hBw hb.size)).mono fun e w' hq => ?_
  exact ⟨hq.1, hq.2.1, (Kq.of_below hb hBw).trans hq.2.2⟩

set_option maxRecDepth 10000 in
set_option maxHeartbeats 4000000 in
theorem op_wr {B b : Nat} {l : List UInt8} (k : Int) (n : List UInt8) (z : Int) (w : World) (h : PageAt B b l w) (hl : l.length + tot (opT (k, n, z)) ≤ 900000000) (hr : -9223372036854775808 ≤ z ∧ z ≤ 9223372036854775807) (hBw : B ≤ w.heap.size) (hg : Gl w) (hB : 12 ≤ B) : Calls Tryz.prog 121 #[.pointer (some ⟨b, 0, none⟩), .agg #[.int .i64 k, .string (txtOf n), .int .i64 z]] w (WrO B b (wordsP (opT (k, n, z)) l) w) := by
  obtain ⟨W, hW⟩ : ∃ W, w.alloc (.cells #[.int .i64 k, .string (txtOf n), .int .i64 z] 84) = W := ⟨_, rfl⟩
  have hbW : Below w.heap.size w W := by rw [← hW]; exact (Below.refl _ _).alloc (Nat.le_refl _) _
  have kW : Kq B w W := Kq.of_below hbW hBw
  have hBW : B ≤ W.heap.size := Nat.le_trans hBw hbW.size
  have gW : W.heap[w.heap.size]? = some (.cells #[.int .i64 k, .string (txtOf n), .int .i64 z] 84 (0, 0)) := by rw [← hW]; exact heap_alloc_new w _
  have HKW : Hid (Kq B w W) := kW
  have HP : Hid (PageAt B b l W) := page_below h hbW
  have HG : Hid (Gl W) := hg.kq kW hB
  have c0 := cell_of gW 0
  have c1 := cell_of gW 1
  have c2 := cell_of gW 2
  dsimp at c0 c1 c2
  have HgW : Hid (W.heap[w.heap.size]? = some (.cells #[.int .i64 k, .string (txtOf n), .int .i64 z] 84 (0, 0))) := gW
  clear h hg hbW kW gW
  unfold WrO
  by_cases h1 : k = 1
  · subst h1
    have hT : opT (1, n, z) = [n] := rfl
    rw [hT] at hl
    rw [hT]
    have HC : Hid (Calls Tryz.prog 80 #[.pointer (some ⟨b, 0, none⟩), .slice (some ⟨W.heap.size, 0, none⟩) 1 1] (W.alloc (.cells #[.string (txtOf n)] 9)) fun e w' => e = .returned (.pointer (some ⟨b, 0, none⟩)) ∧ PageAt B b (wordsP [n] l) w' ∧ Kq B W w') := words_one n W HP.out (by simpa [tot] using hl) hBW
    clear hl hT
    go_enter Tryz.func121, Tryz.ntmps121
    go_wp2_with fail
    refine calls_at HC.out (by with_reducible rfl) (by with_reducible rfl) ?_
    rintro e w2 ⟨rfl, hp2, hk2⟩
    have H2 : Hid (PageAt B b (wordsP [n] l) w2 ∧ Kq B w w2) := ⟨hp2, HKW.out.trans hk2⟩
    clear hp2 hk2
    go_wp2_with fail
    go_end0
    exact ⟨rfl, H2.out⟩
  by_cases h2 : k = 2
  · subst h2
    have hT : opT (2, n, z) = [litT z] := rfl
    rw [hT] at hl
    rw [hT]
    have HC : Hid (Calls Tryz.prog 128 #[.pointer (some ⟨b, 0, none⟩), .slice (some ⟨W.heap.size, 0, none⟩) 1 1] (W.alloc (.cells #[.int .i64 z] 3)) fun e w' => e = .returned (.pointer (some ⟨b, 0, none⟩)) ∧ PageAt B b (wordsP [litT z] l) w' ∧ Kq B W w') := lits_one z W HP.out (by simpa [tot] using hl) hr hBW HG.out hB
    clear hl hT
    go_enter Tryz.func121, Tryz.ntmps121
    go_wp2_with fail
    refine calls_at HC.out (by with_reducible rfl) (by with_reducible rfl) ?_
    rintro e w2 ⟨rfl, hp2, hk2⟩
    have H2 : Hid (PageAt B b (wordsP [litT z] l) w2 ∧ Kq B w w2) := ⟨hp2, HKW.out.trans hk2⟩
    clear hp2 hk2
    go_wp2_with fail
    go_end0
    exact ⟨rfl, H2.out⟩
  by_cases h3 : k = 3
  · subst h3
    have hT : opT (3, n, z) = [[43]] := rfl
    rw [hT] at hl
    rw [hT]
    have HC : Hid (Calls Tryz.prog 80 #[.pointer (some ⟨b, 0, none⟩), .slice (some ⟨W.heap.size, 0, none⟩) 1 1] (W.alloc (.cells #[.string ⟨#[43]⟩] 9)) fun e w' => e = .returned (.pointer (some ⟨b, 0, none⟩)) ∧ PageAt B b (wordsP [[43]] l) w' ∧ Kq B W w') := words_one [43] W HP.out (by simpa [tot] using hl) hBW
    clear hl hT
    go_enter Tryz.func121, Tryz.ntmps121
    go_wp2_with fail
    refine calls_at HC.out (by with_reducible rfl) (by with_reducible rfl) ?_
    rintro e w2 ⟨rfl, hp2, hk2⟩
    have H2 : Hid (PageAt B b (wordsP [[43]] l) w2 ∧ Kq B w w2) := ⟨hp2, HKW.out.trans hk2⟩
    clear hp2 hk2
    go_wp2_with fail
    go_end0
    exact ⟨rfl, H2.out⟩
  by_cases h4 : k = 4
  · subst h4
    have hT : opT (4, n, z) = [n, [42]] := rfl
    rw [hT] at hl
    rw [hT]
    have HC : Hid (Calls Tryz.prog 80 #[.pointer (some ⟨b, 0, none⟩), .slice (some ⟨W.heap.size, 0, none⟩) 2 2] (W.alloc (.cells #[.string (txtOf n), .string ⟨#[42]⟩] 9)) fun e w' => e = .returned (.pointer (some ⟨b, 0, none⟩)) ∧ PageAt B b (wordsP [n, [42]] l) w' ∧ Kq B W w') := words_two n [42] W HP.out hl hBW
    clear hl hT
    go_enter Tryz.func121, Tryz.ntmps121
    go_wp2_with fail
    refine calls_at HC.out (by with_reducible rfl) (by with_reducible rfl) ?_
    rintro e w2 ⟨rfl, hp2, hk2⟩
    have H2 : Hid (PageAt B b (wordsP [n, [42]] l) w2 ∧ Kq B w w2) := ⟨hp2, HKW.out.trans hk2⟩
    clear hp2 hk2
    go_wp2_with fail
    go_end0
    exact ⟨rfl, H2.out⟩
  by_cases h5 : k = 5
  · subst h5
    have hT : opT (5, n, z) = [n, [100]] := rfl
    rw [hT] at hl
    rw [hT]
    have HC : Hid (Calls Tryz.prog 80 #[.pointer (some ⟨b, 0, none⟩), .slice (some ⟨W.heap.size, 0, none⟩) 2 2] (W.alloc (.cells #[.string (txtOf n), .string ⟨#[100]⟩] 9)) fun e w' => e = .returned (.pointer (some ⟨b, 0, none⟩)) ∧ PageAt B b (wordsP [n, [100]] l) w' ∧ Kq B W w') := words_two n [100] W HP.out hl hBW
    clear hl hT
    go_enter Tryz.func121, Tryz.ntmps121
    go_wp2_with fail
    refine calls_at HC.out (by with_reducible rfl) (by with_reducible rfl) ?_
    rintro e w2 ⟨rfl, hp2, hk2⟩
    have H2 : Hid (PageAt B b (wordsP [n, [100]] l) w2 ∧ Kq B w w2) := ⟨hp2, HKW.out.trans hk2⟩
    clear hp2 hk2
    go_wp2_with fail
    go_end0
    exact ⟨rfl, H2.out⟩
  by_cases h6 : k = 6
  · subst h6
    have hT : opT (6, n, z) = [[115]] := rfl
    rw [hT] at hl
    rw [hT]
    have HC : Hid (Calls Tryz.prog 80 #[.pointer (some ⟨b, 0, none⟩), .slice (some ⟨W.heap.size, 0, none⟩) 1 1] (W.alloc (.cells #[.string ⟨#[115]⟩] 9)) fun e w' => e = .returned (.pointer (some ⟨b, 0, none⟩)) ∧ PageAt B b (wordsP [[115]] l) w' ∧ Kq B W w') := words_one [115] W HP.out (by simpa [tot] using hl) hBW
    clear hl hT
    go_enter Tryz.func121, Tryz.ntmps121
    go_wp2_with fail
    refine calls_at HC.out (by with_reducible rfl) (by with_reducible rfl) ?_
    rintro e w2 ⟨rfl, hp2, hk2⟩
    have H2 : Hid (PageAt B b (wordsP [[115]] l) w2 ∧ Kq B w w2) := ⟨hp2, HKW.out.trans hk2⟩
    clear hp2 hk2
    go_wp2_with fail
    go_end0
    exact ⟨rfl, H2.out⟩
  by_cases h7 : k = 7
  · subst h7
    have hT : opT (7, n, z) = [litT z, [119]] := rfl
    rw [hT] at hl
    rw [hT]
    have hl2 : l.length + ((litT z).length + 1) + 2 ≤ 900000000 := by simp [tot] at hl; omega
    have HC : Hid (Calls Tryz.prog 128 #[.pointer (some ⟨b, 0, none⟩), .slice (some ⟨W.heap.size, 0, none⟩) 1 1] (W.alloc (.cells #[.int .i64 z] 3)) fun e w' => e = .returned (.pointer (some ⟨b, 0, none⟩)) ∧ PageAt B b (wordP l (litT z)) w' ∧ Kq B W w') := lits_one z W HP.out (by omega) hr hBW HG.out hB
    have HD : Hid (∀ w', Kq B W w' → PageAt B b (wordP l (litT z)) w' → Calls Tryz.prog 80 #[.pointer (some ⟨b, 0, none⟩), .slice (some ⟨w'.heap.size, 0, none⟩) 1 1] (w'.alloc (.cells #[.string ⟨#[119]⟩] 9)) fun e w2 => e = .returned (.pointer (some ⟨b, 0, none⟩)) ∧ PageAt B b (wordsP [litT z, [119]] l) w2 ∧ Kq B w' w2) := fun w' k hp => words_one [119] w' hp (by have := word_len l (litT z); simp; omega) (Nat.le_trans hBW k.low.size)
    clear hl hl2 hT
    go_enter Tryz.func121, Tryz.ntmps121
    go_wp2_with fail
    refine calls_at HC.out (by with_reducible rfl) (by with_reducible rfl) ?_
    rintro e w2 ⟨rfl, hp2, hk2⟩
    have H2 : Hid (PageAt B b (wordP l (litT z)) w2 ∧ Kq B W w2) := ⟨hp2, hk2⟩
    clear hp2 hk2
    go_wp2_with fail
    refine calls_at (HD.out w2 H2.out.2 H2.out.1) (by with_reducible rfl) (by with_reducible rfl) ?_
    rintro e w3 ⟨rfl, hp3, hk3⟩
    have H3 : Hid (PageAt B b (wordsP [litT z, [119]] l) w3 ∧ Kq B w w3) := ⟨hp3, HKW.out.trans (H2.out.2.trans hk3)⟩
    clear hp3 hk3
    go_wp2_with fail
    go_end0
    exact ⟨rfl, H3.out⟩
  have hT : opT (k, n, z) = [] := by simp [opT, h1, h2, h3, h4, h5, h6, h7]
  rw [hT]
  have HE : Hid (PageAt B b l W ∧ Kq B w W) := ⟨HP.out, HKW.out⟩
  clear hl hT
  go_enter Tryz.func121, Tryz.ntmps121
  go_wp2_with fail
  go_end0
  exact ⟨rfl, HE.out⟩
/-- All operations' words. -/
def opsT (L : List OpL) : List (List UInt8) := L.flatMap opT
end Go.Proofs.YtibbnijicdijnaaGreatDoor

namespace Go.Proofs.YtibbnijicdijnaaGreatDoor
open Go.RowKit

theorem opsT_take (L : List OpL) (i : Nat) (hi : i < L.length) : opsT (L.take (i + 1)) = opsT (L.take i) ++ opT L[i] := by
  unfold opsT
  rw [List.take_succ_eq_append_getElem hi, List.flatMap_append]
  simp
theorem opsT_le (L : List OpL) (i : Nat) (hi : i < L.length) : tot (opsT (L.take i)) + tot (opT L[i]) ≤ tot (opsT L) := by
  have e : opsT L = opsT (L.take (i + 1)) ++ opsT (L.drop (i + 1)) := by
    unfold opsT
    rw [← List.flatMap_append, List.take_append_drop]
  rw [e, opsT_take L i hi, tot_app, tot_app]
  omega

set_option maxRecDepth 10000 in
set_option maxHeartbeats 4000000 in
theorem ops_wr {B b : Nat} {l : List UInt8} (d : SL) (vo vp vl vi : Value) (w : World) (h : PageAt B b l w) (hs : SlE B w d vo vp vl vi) (hr : ∀ o ∈ d.ops, -9223372036854775808 ≤ o.2.2 ∧ o.2.2 ≤ 9223372036854775807) (hl : l.length + tot (opsT d.ops) ≤ 900000000) (hBw : B ≤ w.heap.size) (hg : Gl w) (hB : 12 ≤ B) : Calls Tryz.prog 86 #[.pointer (some ⟨b, 0, none⟩), .agg (slC d vo vp vl vi)] w (WrO B b (wordsP (opsT d.ops) l) w) := by
  obtain ⟨W, hW⟩ : ∃ W, w.alloc (.cells (slC d vo vp vl vi) 45) = W := ⟨_, rfl⟩
  have hbW : Below w.heap.size w W := by rw [← hW]; exact (Below.refl _ _).alloc (Nat.le_refl _) _
  have HW : Hid (Kq B w W) := Kq.of_below hbW hBw
  have HPW : Hid (PageAt B b l W) := page_below h hbW
  have gW : W.heap[w.heap.size]? = some (.cells (slC d vo vp vl vi) 45 (0, 0)) := by rw [← hW]; exact heap_alloc_new w _
  have HR : Hid (RdE B w vo d.ops.length (opsC d.ops)) := hs.o
  have HG : Hid (Gl w) := hg
  have HRg : Hid (∀ o ∈ d.ops, -9223372036854775808 ≤ o.2.2 ∧ o.2.2 ≤ 9223372036854775807) := hr
  have HL : Hid (l.length + tot (opsT d.ops) ≤ 900000000) := hl
  have c2 := cell_of gW 2
  obtain ⟨ao, co, rfl, hn, _⟩ := hs.o
  obtain ⟨ap, cp, rfl, _, _⟩ := hs.p
  obtain ⟨al, cl, rfl, _, _⟩ := hs.l
  obtain ⟨ai, ci, rfl, _, _⟩ := hs.i
  unfold slC at hW
  simp only [slC] at c2
  dsimp at c2
  unfold WrO slC
  clear h hs hg hr hl hbW gW
  go_enter Tryz.func86, Tryz.ntmps86
  go_wp2_with fail
  go_loopw [9] (fun iv wr => ∃ i : Nat, iv = .int .i64 (i : Int) ∧ i ≤ d.ops.length ∧ Hid (PageAt B b (wordsP (opsT (d.ops.take i)) l) wr ∧ Kq B w wr)) (fun iv _ => d.ops.length - (intOf iv).toNat)
  case atStart => exact ⟨0, rfl, Nat.zero_le _, HPW.out, HW.out⟩
  case round =>
    obtain ⟨i, rfl, hi, HP⟩ := hrel
    by_cases hin : i < d.ops.length
    · have hiI : (i : Int) < (d.ops.length : Int) := by omega
      obtain ⟨g, off, rfl, hce⟩ := (HR.out.next HP.out.2).cell i hin
      obtain ⟨p0, p1, p2⟩ := ops_get d.ops i hin
      have d0 : wr.cell? ⟨g, off + i * 3, none⟩ = some (.int .i64 d.ops[i].1) := hce _ _ p0
      have d1 : wr.cell? ⟨g, off + i * 3 + 1, none⟩ = some (.string (txtOf d.ops[i].2.1)) := hce _ _ p1
      have d2 : wr.cell? ⟨g, off + i * 3 + 2, none⟩ = some (.int .i64 d.ops[i].2.2) := hce _ _ p2
      have hrg := HRg.out d.ops[i] (List.getElem_mem hin)
      have HN0 := opsT_take d.ops i hin
      have hle := opsT_le d.ops i hin
      obtain ⟨o, ho⟩ : ∃ o, d.ops[i] = o := ⟨_, rfl⟩
      rw [ho] at d0 d1 d2 hrg HN0 hle
      obtain ⟨k, n, z⟩ := o
      obtain ⟨m, hm⟩ : ∃ m, wordsP (opsT (d.ops.take i)) l = m := ⟨_, rfl⟩
      have HN : Hid (wordsP (opsT (d.ops.take (i + 1))) l = wordsP (opT (k, n, z)) m) := by
        show _ = _
        rw [HN0, words_app, hm]
      have hml : m.length + tot (opT (k, n, z)) ≤ 900000000 := by
        have h1 := words_len (opsT (d.ops.take i)) l
        have := HL.out
        rw [hm] at h1
        omega
      have hBr : B ≤ wr.heap.size := Nat.le_trans hBw HP.out.2.low.size
      obtain ⟨X, hX⟩ : ∃ X, wr.alloc (.cells #[.int .i64 k, .string (txtOf n), .int .i64 z] 84) = X := ⟨_, rfl⟩
      have hbX : Below wr.heap.size wr X := by rw [← hX]; exact (Below.refl _ _).alloc (Nat.le_refl _) _
      have gX : X.heap[wr.heap.size]? = some (.cells #[.int .i64 k, .string (txtOf n), .int .i64 z] 84 (0, 0)) := by rw [← hX]; exact heap_alloc_new wr _
      have HX : Hid (PageAt B b m X ∧ Kq B w X) := ⟨by rw [← hm]; exact page_below HP.out.1 hbX, HP.out.2.trans (Kq.of_below hbX hBr)⟩
      have HC : Hid (Calls Tryz.prog 121 #[.pointer (some ⟨b, 0, none⟩), .agg #[.int .i64 k, .string (txtOf n), .int .i64 z]] X (WrO B b (wordsP (opT (k, n, z)) m) X)) := op_wr k n z X HX.out.1 hml hrg (Nat.le_trans hBw HX.out.2.low.size) (HG.out.kq HX.out.2 hB) hB
      have e0 := cell_of gX 0
      have e1 := cell_of gX 1
      have e2 := cell_of gX 2
      dsimp at e0 e1 e2
      clear hbX gX HN0 hle hm hml hce p0 p1 p2 ho
      go_wp2_with fail
      refine calls_at HC.out (by with_reducible rfl) (by with_reducible rfl) ?_
      rintro e w2 ⟨rfl, hp2, hk2⟩
      have H2 : Hid (PageAt B b (wordsP (opsT (d.ops.take (i + 1))) l) w2 ∧ Kq B w w2) := ⟨by rw [HN.out]; exact hp2, HX.out.2.trans hk2⟩
      clear hp2 hk2
      go_wp2_with fail
      go_roundw
      case rel => exact ⟨i + 1, by go_num, hin, H2⟩
      case measure => simp [intOf]; omega
    · have hiI : ¬ (i : Int) < (d.ops.length : Int) := by omega
      have HE : Hid (PageAt B b (wordsP (opsT d.ops) l) wr ∧ Kq B w wr) := by
        have := HP.out
        rw [List.take_of_length_le (by omega)] at this
        exact this
      go_wp2_with fail
      go_end0
      exact ⟨rfl, HE.out⟩
end Go.Proofs.YtibbnijicdijnaaGreatDoor

namespace Go.Proofs.YtibbnijicdijnaaGreatDoor
open Go.RowKit

theorem wrt_ops : Wrt 86 fun d => opsT d.ops := fun _ _ _ d vo vp vl vi w h hs hi hl hBw hg hB => ops_wr d vo vp vl vi w h hs hi.o hl hBw hg hB
/-- Steps, by their writers. -/
def wrF (f : FuncId) (d : SL) : List (List UInt8) :=
  if f = 84 then [d.n] else if f = 86 then opsT d.ops else if f = 88 then rowT d.pcs d.deg ++ d.ids else if f = 90 then d.ids ++ rowT d.pcs d.deg
  else if f = 92 then d.lits.map litT else if f = 94 then d.ids else if f = 97 then kindT claimsL wrC d.ends d else []
theorem tabF (k : Int) : TabW formsL wrF k where
  leaf := by
    intro f hf _
    simp only [formsL, List.mem_cons, List.not_mem_nil, or_false] at hf
    rcases hf with rfl | rfl | rfl | rfl | rfl | rfl | rfl | rfl | rfl | rfl | rfl | rfl
    · exact wrt_nothing
    · exact wrt_size
    · exact wrt_ops
    · exact wrt_rup
    · exact wrt_equal
    · exact wrt_lits
    · exact wrt_lits
    · exact wrt_del
    · exact wrt_nothing
    · exact wrt_nothing
    · exact wrt_ends
    · exact wrt_nothing
  few := by decide
  ent := by
    intro f hf
    simp only [formsL, List.mem_cons, List.not_mem_nil, or_false] at hf
    rcases hf with rfl | rfl | rfl | rfl | rfl | rfl | rfl | rfl | rfl | rfl | rfl | rfl
    · exact Go.Proofs.enters_of Tryz.func82 (by kernel_rfl) rfl
    · exact Go.Proofs.enters_of Tryz.func84 (by kernel_rfl) rfl
    · exact Go.Proofs.enters_of Tryz.func86 (by kernel_rfl) rfl
    · exact Go.Proofs.enters_of Tryz.func88 (by kernel_rfl) rfl
    · exact Go.Proofs.enters_of Tryz.func90 (by kernel_rfl) rfl
    · exact Go.Proofs.enters_of Tryz.func92 (by kernel_rfl) rfl
    · exact Go.Proofs.enters_of Tryz.func92 (by kernel_rfl) rfl
    · exact Go.Proofs.enters_of Tryz.func94 (by kernel_rfl) rfl
    · exact Go.Proofs.enters_of Tryz.func82 (by kernel_rfl) rfl
    · exact Go.Proofs.enters_of Tryz.func82 (by kernel_rfl) rfl
    · exact Go.Proofs.enters_of Tryz.func97 (by kernel_rfl) rfl
    · exact Go.Proofs.enters_of Tryz.func82 (by kernel_rfl) rfl
/-- The words of a step's line. -/
def lnW (d : SL) : List (List UInt8) := kindT formsL wrF d.k d
/-- The line that write tells of a step. -/
def lnT (d : SL) : List UInt8 := wordsP (lnW d) []
end Go.Proofs.YtibbnijicdijnaaGreatDoor
