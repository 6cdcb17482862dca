/-
  Put together: PfPrint, PfKn, PfKnown, PfWr2.
-/
import Derived.Test.YtibbnijicdijnaaGreatDoorJ35
import Derived.Test.YtibbnijicdijnaaGreatDoorJ34
namespace Go.Proofs.YtibbnijicdijnaaGreatDoor
open Go.RowKit

theorem rd_of_own {w : World} {B : Nat} {e : TypeId} {m : Nat} {v : Value} {n : Nat} {xs : List Value} (h : w.ownsRow B e m v n xs) (hn : n ≤ 9223372036854775807) : RdAt w v n xs := by
  have hc := fun g hg => h.cells (g := g) hg
  rcases h.2 with ⟨rfl, rfl⟩ | ⟨g, cap, cur, rfl, _, hg, _⟩
  · exact ⟨none, 0, rfl, hn, fun h0 => absurd h0 (Nat.lt_irrefl _)⟩
  · refine ⟨_, _, rfl, hn, fun _ => ⟨g, 0, rfl, (Array.getElem?_eq_some_iff.1 hg).1, fun j u hu => ?_⟩⟩
    have := hc g rfl j u hu
    by_cases hj : j = 0
    · subst hj; simpa [Addr.add] using this
    · simpa [Addr.add, hj] using this
theorem RdAt.e {w : World} {v : Value} {n : Nat} {xs : List Value} (h : RdAt w v n xs) : RdE w.heap.size w v n xs := by
  obtain ⟨a, cap, h1, h2, h3⟩ := h
  refine ⟨a, cap, h1, h2, fun h0 => ?_⟩
  obtain ⟨g, off, e1, e2, e3⟩ := h3 h0
  exact ⟨g, off, e1, .inl e2, e2, e3⟩
theorem SlR.e {w : World} {d : SL} {vo vp vl vi : Value} (h : SlR w d vo vp vl vi) : SlE w.heap.size w d vo vp vl vi := ⟨h.o.e, h.p.e, h.l.e, h.i.e⟩
theorem SlR.few {w : World} {d : SL} {vo vp vl vi : Value} (h : SlR w d vo vp vl vi) : d.ops.length ≤ 9223372036854775807 ∧ d.pcs.length ≤ 9223372036854775807 ∧ d.lits.length ≤ 9223372036854775807 ∧ d.ids.length ≤ 9223372036854775807 := by
  obtain ⟨_, _, _, h1, _⟩ := h.o
  obtain ⟨_, _, _, h2, _⟩ := h.p
  obtain ⟨_, _, _, h3, _⟩ := h.l
  obtain ⟨_, _, _, h4, _⟩ := h.i
  exact ⟨h1, h2, h3, h4⟩

set_option maxRecDepth 10000 in
set_option maxHeartbeats 2000000 in
theorem print_eq {wf : FuncId → SL → List (List UInt8)} (d : SL) (hT : TabW formsL wf d.k) (vo vp vl vi : Value) (w : World) (hs : SlR w d vo vp vl vi) (hi : SlI d) (hl : tot (kindT formsL wf d.k d) ≤ 9000000) (x : List UInt8) (hx : wordsP (kindT formsL wf d.k d) [] = x) (hp : parseP x = (d, 0)) (hg : Gl w) (hB : 12 ≤ w.heap.size) : Calls Tryz.prog 13 #[.agg (slC d vo vp vl vi)] w fun e w' => e = .returned (.tuple #[.string (txtOf x), .int .i64 0]) ∧ Below w.heap.size w w' := by
  obtain ⟨W, hW⟩ : ∃ W, w.alloc (.cells (slC d vo vp vl vi) 45) = W := ⟨_, rfl⟩
  have hbW : Below w.heap.size w W := by rw [← hW]; exact (Below.refl _ _).alloc (Nat.le_refl _) _
  have gW : W.heap[w.heap.size]? = some (.cells (slC d vo vp vl vi) 45 (0, 0)) := by rw [← hW]; exact heap_alloc_new w _
  have hlt : w.heap.size < W.heap.size := (Array.getElem?_eq_some_iff.1 gW).1
  have hxl : x.length ≤ 9000000 := by
    have := words_len (kindT formsL wf d.k d) []
    rw [hx] at this
    simp at this
    omega
  have HWr : Hid (Calls Tryz.prog 40 #[.agg (slC d vo vp vl vi)] W fun e w' => e = .returned (.string (txtOf x)) ∧ Below W.heap.size W w') := by
    have := write_any d hT vo vp vl vi W (hs.below hbW).e hi (by omega) (Nat.le_refl _) (hg.next hbW) (by omega)
    rw [hx] at this
    exact this
  have HPa : Hid (∀ w', Below W.heap.size W w' → Calls Tryz.prog 18 #[.string (txtOf x)] w' fun e w2 => ∃ vo2 vp2 vl2 vi2, e = .returned (.tuple #[.agg (slC d vo2 vp2 vl2 vi2), .int .i64 0]) ∧ SlR w2 d vo2 vp2 vl2 vi2 ∧ Below w'.heap.size w' w2) := fun w' hb => by
    have := parse_any8 x w' hxl ((hg.next hbW).below hb (by omega))
    unfold PaOut at this
    rw [hp] at this
    refine this.mono fun e w2 hq => ?_
    obtain ⟨vo2, vp2, vl2, vi2, q1, q2, q3⟩ := hq
    have hf := hs.few
    exact ⟨vo2, vp2, vl2, vi2, q1, ⟨rd_of_own q2.o hf.1, rd_of_own q2.p hf.2.1, rd_of_own q2.l hf.2.2.1, rd_of_own q2.i hf.2.2.2⟩, q3⟩
  have HSm : Hid (∀ w' vo2 vp2 vl2 vi2, Below w.heap.size w w' → SlR w' d vo2 vp2 vl2 vi2 → Calls Tryz.prog 41 #[.agg (slC d vo2 vp2 vl2 vi2), .agg (slC d vo vp vl vi)] w' fun e w2 => e = .returned (.bool true) ∧ Below w'.heap.size w' w2) := fun w' vo2 vp2 vl2 vi2 hb h2 => psame_eq d _ _ _ _ _ _ _ _ w' h2 (hs.below hb)
  have HBW : Hid (Below w.heap.size w W) := hbW
  have HMx : Hid (∀ w', Below W.heap.size W w' → w'.heap[w.heap.size]? = some (.cells (slC d vo vp vl vi) 45 (0, 0))) := fun w' hb => (hb.block _ hlt).trans gW
  obtain ⟨oa, oc, rfl, _, _⟩ := id hs.o
  obtain ⟨pa, pc, rfl, _, _⟩ := id hs.p
  obtain ⟨la, lc, rfl, _, _⟩ := id hs.l
  obtain ⟨ia, ic, rfl, _, _⟩ := id hs.i
  unfold slC at hW HWr HMx gW
  have HM : Hid (∀ w', Below W.heap.size W w' → w'.cell? ⟨w.heap.size, 0, none⟩ = some (.int .i64 d.k) ∧ w'.cell? ⟨w.heap.size, 1, none⟩ = some (.string (txtOf d.n)) ∧ w'.cell? ⟨w.heap.size, 2, none⟩ = some (.slice oa d.ops.length oc) ∧ w'.cell? ⟨w.heap.size, 3, none⟩ = some (.slice pa d.pcs.length pc) ∧ w'.cell? ⟨w.heap.size, 4, none⟩ = some (.string (txtOf d.deg)) ∧ w'.cell? ⟨w.heap.size, 5, none⟩ = some (.slice la d.lits.length lc) ∧ w'.cell? ⟨w.heap.size, 6, none⟩ = some (.slice ia d.ids.length ic) ∧ w'.cell? ⟨w.heap.size, 7, none⟩ = some (.int .i64 d.ends) ∧ w'.cell? ⟨w.heap.size, 8, none⟩ = some (.string (txtOf d.low)) ∧ w'.cell? ⟨w.heap.size, 9, none⟩ = some (.string (txtOf d.high))) := fun w' hb => by
    have g := HMx.out w' hb
    exact ⟨cell_of g 0, cell_of g 1, cell_of g 2, cell_of g 3, cell_of g 4, cell_of g 5, cell_of g 6, cell_of g 7, cell_of g 8, cell_of g 9⟩
  unfold slC
  obtain ⟨m0, m1, m2, m3, m4, m5, m6, m7, m8, m9⟩ := HM.out W (Below.refl _ _)
  obtain ⟨X, hX⟩ : ∃ X, txtOf x = X := ⟨_, rfl⟩
  rw [hX] at HWr HPa
  rw [hX]
  clear hT hs hi hl hx hp hg hbW gW hlt hxl HMx hX
  go_enter Tryz.func13, Tryz.ntmps13
  go_wp2_with fail
  refine calls_at HWr.out (by with_reducible rfl) (by with_reducible rfl) ?_
  rintro e w1 ⟨rfl, hb1⟩
  have HB1 : Hid (Below W.heap.size W w1) := hb1
  clear hb1 m0 m1 m2 m3 m4 m5 m6 m7 m8 m9
  go_wp2_with fail
  refine calls_at (HPa.out w1 HB1.out) (by with_reducible rfl) (by with_reducible rfl) ?_
  rintro e w2 ⟨vo2, vp2, vl2, vi2, rfl, h2, hb2⟩
  have H2 : Hid (SlR w2 d vo2 vp2 vl2 vi2) := h2
  have HB2 : Hid (Below W.heap.size W w2) := bl_next HB1.out hb2
  obtain ⟨oa2, oc2, rfl, _, _⟩ := id h2.o
  obtain ⟨pa2, pc2, rfl, _, _⟩ := id h2.p
  obtain ⟨la2, lc2, rfl, _, _⟩ := id h2.l
  obtain ⟨ia2, ic2, rfl, _, _⟩ := id h2.i
  clear hb2 h2
  unfold slC
  obtain ⟨V, hV⟩ : ∃ V, w2.alloc (.cells #[.int .i64 d.k, .string (txtOf d.n), .slice oa2 d.ops.length oc2, .slice pa2 d.pcs.length pc2, .string (txtOf d.deg), .slice la2 d.lits.length lc2, .slice ia2 d.ids.length ic2, .int .i64 d.ends, .string (txtOf d.low), .string (txtOf d.high)] 45) = V := ⟨_, rfl⟩
  have hbV : Below w2.heap.size w2 V := by rw [← hV]; exact (Below.refl _ _).alloc (Nat.le_refl _) _
  have gV : V.heap[w2.heap.size]? = some (.cells #[.int .i64 d.k, .string (txtOf d.n), .slice oa2 d.ops.length oc2, .slice pa2 d.pcs.length pc2, .string (txtOf d.deg), .slice la2 d.lits.length lc2, .slice ia2 d.ids.length ic2, .int .i64 d.ends, .string (txtOf d.low), .string (txtOf d.high)] 45 (0, 0)) := by rw [← hV]; exact heap_alloc_new w2 _
  have HBV : Hid (Below W.heap.size W V) := bl_next HB2.out hbV
  obtain ⟨m0, m1, m2, m3, m4, m5, m6, m7, m8, m9⟩ := HM.out V HBV.out
  obtain ⟨n0, n1, n2, n3, n4, n5, n6, n7, n8, n9⟩ : V.cell? ⟨w2.heap.size, 0, none⟩ = some (.int .i64 d.k) ∧ V.cell? ⟨w2.heap.size, 1, none⟩ = some (.string (txtOf d.n)) ∧ V.cell? ⟨w2.heap.size, 2, none⟩ = some (.slice oa2 d.ops.length oc2) ∧ V.cell? ⟨w2.heap.size, 3, none⟩ = some (.slice pa2 d.pcs.length pc2) ∧ V.cell? ⟨w2.heap.size, 4, none⟩ = some (.string (txtOf d.deg)) ∧ V.cell? ⟨w2.heap.size, 5, none⟩ = some (.slice la2 d.lits.length lc2) ∧ V.cell? ⟨w2.heap.size, 6, none⟩ = some (.slice ia2 d.ids.length ic2) ∧ V.cell? ⟨w2.heap.size, 7, none⟩ = some (.int .i64 d.ends) ∧ V.cell? ⟨w2.heap.size, 8, none⟩ = some (.string (txtOf d.low)) ∧ V.cell? ⟨w2.heap.size, 9, none⟩ = some (.string (txtOf d.high)) := by
    have g := gV
    exact ⟨cell_of g 0, cell_of g 1, cell_of g 2, cell_of g 3, cell_of g 4, cell_of g 5, cell_of g 6, cell_of g 7, cell_of g 8, cell_of g 9⟩
  have HS2 : Hid (Calls Tryz.prog 41 #[.agg #[.int .i64 d.k, .string (txtOf d.n), .slice oa2 d.ops.length oc2, .slice pa2 d.pcs.length pc2, .string (txtOf d.deg), .slice la2 d.lits.length lc2, .slice ia2 d.ids.length ic2, .int .i64 d.ends, .string (txtOf d.low), .string (txtOf d.high)], .agg #[.int .i64 d.k, .string (txtOf d.n), .slice oa d.ops.length oc, .slice pa d.pcs.length pc, .string (txtOf d.deg), .slice la d.lits.length lc, .slice ia d.ids.length ic, .int .i64 d.ends, .string (txtOf d.low), .string (txtOf d.high)]] V fun e w2 => e = .returned (.bool true) ∧ Below V.heap.size V w2) := HSm.out V _ _ _ _ (HBW.out.trans (HBV.out.mono HBW.out.size)) (H2.out.below hbV)
  clear hbV gV
  go_wp2_with fail
  refine calls_at HS2.out (by with_reducible rfl) (by with_reducible rfl) ?_
  rintro e w3 ⟨rfl, hb3⟩
  have HB3 : Hid (Below W.heap.size W w3) := bl_next HBV.out hb3
  clear hb3 m0 m1 m2 m3 m4 m5 m6 m7 m8 m9 n0 n1 n2 n3 n4 n5 n6 n7 n8 n9
  go_wp2_with fail
  go_ret2
  exact ⟨rfl, HBW.out.trans (HB3.out.mono HBW.out.size)⟩
end Go.Proofs.YtibbnijicdijnaaGreatDoor

namespace Go.Proofs.YtibbnijicdijnaaGreatDoor
open Go.RowKit

theorem num_any (n : Int) (w : World) : Calls Tryz.prog 14 #[.int .i64 n] w fun e w' => e = .returned (.int .i64 n) ∧ w' = w := by
  go_enter Tryz.func14, Tryz.ntmps14
  go_wp2_with fail
  go_ret
  exact ⟨rfl, rfl⟩
def kt0 : List UInt8 := [112, 111, 108, 32, 51, 32, 52, 32, 43, 32, 50, 32, 100, 32, 120, 53, 32, 119, 32, 115, 32, 126, 120, 49, 32, 51, 32, 42, 32, 43]
def kd0 : SL := ⟨3, [], [(1, [51], 0), (1, [52], 0), (3, [], 0), (5, [50], 0), (7, [], 5), (6, [], 0), (2, [], -1), (4, [51], 0), (3, [], 0)], [], [], [], [], 0, [], []⟩
theorem kp0 : parseP kt0 = (kd0, 0) := by kernel_rfl
def kt1 : List UInt8 := [99, 111, 110, 99, 108, 117, 115, 105, 111, 110, 32, 66, 79, 85, 78, 68, 83, 32, 51, 32, 58, 32, 49, 55, 32, 51]
def kd1 : SL := ⟨9, [], [], [], [], [], [[49, 55]], 5, [51], [51]⟩
theorem kp1 : parseP kt1 = (kd1, 0) := by kernel_rfl
def kt2 : List UInt8 := [112, 111, 108, 32, 51, 32, 52, 32, 45]
def kd2 : SL := SL.zero
theorem kp2 : parseP kt2 = (kd2, 80) := by kernel_rfl
def kt3 : List UInt8 := [114, 117, 112, 32, 49, 32, 120, 49, 32, 62, 61, 32, 49]
def kd3 : SL := SL.zero
theorem kp3 : parseP kt3 = (kd3, 82) := by kernel_rfl
def kt4 : List UInt8 := [114, 117, 112, 32, 50, 32, 120, 49, 32, 45, 51, 32, 126, 120, 50, 32, 62, 61, 32, 48, 32, 59]
def kd4 : SL := ⟨4, [], [], [([50], 1), ([45, 51], -2)], [48], [], [], 0, [], []⟩
theorem kp4 : parseP kt4 = (kd4, 0) := by kernel_rfl
/-- A text that is read. -/
theorem kn_parse {x : List UInt8} {d : SL} {n : Int} (hp : parseP x = (d, n)) (hx : x.length ≤ 9000000) (hf : d.ops.length ≤ 9223372036854775807 ∧ d.pcs.length ≤ 9223372036854775807 ∧ d.lits.length ≤ 9223372036854775807 ∧ d.ids.length ≤ 9223372036854775807) (w : World) (hg : Gl w) : Calls Tryz.prog 18 #[.string (txtOf x)] w fun e w' => ∃ oa oc pa pc la lc ia ic, e = .returned (.tuple #[.agg #[.int .i64 d.k, .string (txtOf d.n), .slice oa d.ops.length oc, .slice pa d.pcs.length pc, .string (txtOf d.deg), .slice la d.lits.length lc, .slice ia d.ids.length ic, .int .i64 d.ends, .string (txtOf d.low), .string (txtOf d.high)], .int .i64 n]) ∧ SlR w' d (.slice oa d.ops.length oc) (.slice pa d.pcs.length pc) (.slice la d.lits.length lc) (.slice ia d.ids.length ic) ∧ Below w.heap.size w w' := by
  have := parse_any8 x w hx hg
  unfold PaOut at this
  rw [hp] at this
  refine this.mono fun e w' hq => ?_
  obtain ⟨vo, vp, vl, vi, q1, q2, q3⟩ := hq
  have r : SlR w' d vo vp vl vi := ⟨rd_of_own q2.o hf.1, rd_of_own q2.p hf.2.1, rd_of_own q2.l hf.2.2.1, rd_of_own q2.i hf.2.2.2⟩
  obtain ⟨oa, oc, rfl⟩ := own_slice q2.o
  obtain ⟨pa, pc, rfl⟩ := own_slice q2.p
  obtain ⟨la, lc, rfl⟩ := own_slice q2.l
  obtain ⟨ia, ic, rfl⟩ := own_slice q2.i
  exact ⟨oa, oc, pa, pc, la, lc, ia, ic, q1, r, q3⟩
def knW (_ : FuncId) (d : SL) : List (List UInt8) := rowT d.pcs d.deg ++ d.ids
theorem knTab : TabW formsL knW 4 where
  leaf := by
    intro f hf
    simp only [formsL, List.mem_cons, List.not_mem_nil, or_false] at hf
    rcases hf with rfl | rfl | rfl | rfl | rfl | rfl | rfl | rfl | rfl | rfl | rfl | rfl <;> intro h <;> first | exact wrt_rup | exact absurd h (by decide)
  few := by decide
  ent := by
    intro f hf
    simp only [formsL, List.mem_cons, List.not_mem_nil, or_false] at hf
    rcases hf with rfl | rfl | rfl | rfl | rfl | rfl | rfl | rfl | rfl | rfl | rfl | rfl
    · exact Go.Proofs.enters_of Tryz.func82 (by kernel_rfl) rfl
    · exact Go.Proofs.enters_of Tryz.func84 (by kernel_rfl) rfl
    · exact Go.Proofs.enters_of Tryz.func86 (by kernel_rfl) rfl
    · exact Go.Proofs.enters_of Tryz.func88 (by kernel_rfl) rfl
    · exact Go.Proofs.enters_of Tryz.func90 (by kernel_rfl) rfl
    · exact Go.Proofs.enters_of Tryz.func92 (by kernel_rfl) rfl
    · exact Go.Proofs.enters_of Tryz.func92 (by kernel_rfl) rfl
    · exact Go.Proofs.enters_of Tryz.func94 (by kernel_rfl) rfl
    · exact Go.Proofs.enters_of Tryz.func82 (by kernel_rfl) rfl
    · exact Go.Proofs.enters_of Tryz.func82 (by kernel_rfl) rfl
    · exact Go.Proofs.enters_of Tryz.func97 (by kernel_rfl) rfl
    · exact Go.Proofs.enters_of Tryz.func82 (by kernel_rfl) rfl
theorem kn_line : wordsP (kindT formsL knW 4 kd4) [] = kt4 := by kernel_rfl
theorem kn_tot : tot (kindT formsL knW kd4.k kd4) = 23 := by kernel_rfl
theorem kn_pcs (w : World) : RdAt (w.alloc (.cells #[.string ⟨#[50]⟩, .int .i64 1, .string ⟨#[45, 51]⟩, .int .i64 (-2)] 82)) (.slice (some ⟨w.heap.size, 0, none⟩) 2 2) 2 (pcsC kd4.pcs) := by
  have hg := heap_alloc_new w (.cells #[.string ⟨#[50]⟩, .int .i64 1, .string ⟨#[45, 51]⟩, .int .i64 (-2)] 82)
  refine ⟨_, _, rfl, by omega, fun _ => ⟨w.heap.size, 0, rfl, (Array.getElem?_eq_some_iff.1 hg).1, fun j u hu => ?_⟩⟩
  rw [Nat.zero_add, cell_of hg]
  rw [show pcsC kd4.pcs = [.string ⟨#[50]⟩, .int .i64 1, .string ⟨#[45, 51]⟩, .int .i64 (-2)] from by kernel_rfl] at hu
  simpa using hu
theorem kn_nil (w : World) (xs : List Value) : RdAt w (.slice none 0 0) 0 xs := ⟨none, 0, rfl, by omega, fun h => absurd h (Nat.lt_irrefl _)⟩
/-- Print of the chapter's step. -/
theorem kn_print (w : World) (hg : Gl w) (hB : 12 ≤ w.heap.size) : Calls Tryz.prog 13 #[.agg #[.int .i64 4, .string ⟨#[]⟩, .slice none 0 0, .slice (some ⟨w.heap.size, 0, none⟩) 2 2, .string ⟨#[48]⟩, .slice none 0 0, .slice none 0 0, .int .i64 0, .string ⟨#[]⟩, .string ⟨#[]⟩]] (w.alloc (.cells #[.string ⟨#[50]⟩, .int .i64 1, .string ⟨#[45, 51]⟩, .int .i64 (-2)] 82)) fun e w' => e = .returned (.tuple #[.string ⟨#[114, 117, 112, 32, 50, 32, 120, 49, 32, 45, 51, 32, 126, 120, 50, 32, 62, 61, 32, 48, 32, 59]⟩, .int .i64 0]) ∧ Below w.heap.size w w' := by
  have hb : Below w.heap.size w (w.alloc (.cells #[.string ⟨#[50]⟩, .int .i64 1, .string ⟨#[45, 51]⟩, .int .i64 (-2)] 82)) := (Below.refl _ _).alloc (Nat.le_refl _) _
  refine (print_eq kd4 knTab (.slice none 0 0) (.slice (some ⟨w.heap.size, 0, none⟩) 2 2) (.slice none 0 0) (.slice none 0 0) _ ⟨kn_nil _ _, kn_pcs w, kn_nil _ _, kn_nil _ _⟩ ⟨?_, ?_, ?_⟩ (by rw [kn_tot]; decide) kt4 kn_line kp4 (hg.next hb) (Nat.le_trans hB hb.size)).mono fun e w' hq => ⟨hq.1, bl_next hb hq.2⟩
  · intro x hx
    simp only [kd4, List.mem_cons, List.not_mem_nil, or_false] at hx
    rcases hx with rfl | rfl <;> decide
  · intro x hx
    exact absurd hx (List.not_mem_nil)
  · intro x hx
    exact absurd hx (List.not_mem_nil)
end Go.Proofs.YtibbnijicdijnaaGreatDoor

namespace Go.Proofs.YtibbnijicdijnaaGreatDoor
open Go.RowKit

theorem Gl.to {B : Nat} {w w' : World} (h : Gl w) (k : Below B w w') (hB : 12 ≤ B) : Gl w' := h.below k hB

set_option maxRecDepth 20000 in
set_option maxHeartbeats 4000000 in
theorem known_any (w : World) (hg : Gl w) (hB : 12 ≤ w.heap.size) : Calls Tryz.prog 7 #[] w fun e w' => e = .returned (.bool true) ∧ Below w.heap.size w w' := by
  have H0 : Hid (∀ w', Below w.heap.size w w' → Calls Tryz.prog 18 #[.string ⟨#[112, 111, 108, 32, 51, 32, 52, 32, 43, 32, 50, 32, 100, 32, 120, 53, 32, 119, 32, 115, 32, 126, 120, 49, 32, 51, 32, 42, 32, 43]⟩] w' fun e w2 => ∃ oa0 oc0 pa0 pc0 la0 lc0 ia0 ic0, e = .returned (.tuple #[.agg #[.int .i64 3, .string ⟨#[]⟩, .slice oa0 9 oc0, .slice pa0 0 pc0, .string ⟨#[]⟩, .slice la0 0 lc0, .slice ia0 0 ic0, .int .i64 0, .string ⟨#[]⟩, .string ⟨#[]⟩], .int .i64 0]) ∧ SlR w2 kd0 (.slice oa0 kd0.ops.length oc0) (.slice pa0 kd0.pcs.length pc0) (.slice la0 kd0.lits.length lc0) (.slice ia0 kd0.ids.length ic0) ∧ Below w'.heap.size w' w2) := fun w' hb => kn_parse kp0 (by decide) (by decide) w' (hg.to hb hB)
  have H1 : Hid (∀ w', Below w.heap.size w w' → Calls Tryz.prog 18 #[.string ⟨#[99, 111, 110, 99, 108, 117, 115, 105, 111, 110, 32, 66, 79, 85, 78, 68, 83, 32, 51, 32, 58, 32, 49, 55, 32, 51]⟩] w' fun e w2 => ∃ oa1 oc1 pa1 pc1 la1 lc1 ia1 ic1, e = .returned (.tuple #[.agg #[.int .i64 9, .string ⟨#[]⟩, .slice oa1 0 oc1, .slice pa1 0 pc1, .string ⟨#[]⟩, .slice la1 0 lc1, .slice ia1 1 ic1, .int .i64 5, .string ⟨#[51]⟩, .string ⟨#[51]⟩], .int .i64 0]) ∧ SlR w2 kd1 (.slice oa1 kd1.ops.length oc1) (.slice pa1 kd1.pcs.length pc1) (.slice la1 kd1.lits.length lc1) (.slice ia1 kd1.ids.length ic1) ∧ Below w'.heap.size w' w2) := fun w' hb => kn_parse kp1 (by decide) (by decide) w' (hg.to hb hB)
  have H2 : Hid (∀ w', Below w.heap.size w w' → Calls Tryz.prog 18 #[.string ⟨#[112, 111, 108, 32, 51, 32, 52, 32, 45]⟩] w' fun e w2 => ∃ oa2 oc2 pa2 pc2 la2 lc2 ia2 ic2, e = .returned (.tuple #[.agg #[.int .i64 0, .string ⟨#[]⟩, .slice oa2 0 oc2, .slice pa2 0 pc2, .string ⟨#[]⟩, .slice la2 0 lc2, .slice ia2 0 ic2, .int .i64 0, .string ⟨#[]⟩, .string ⟨#[]⟩], .int .i64 80]) ∧ SlR w2 kd2 (.slice oa2 kd2.ops.length oc2) (.slice pa2 kd2.pcs.length pc2) (.slice la2 kd2.lits.length lc2) (.slice ia2 kd2.ids.length ic2) ∧ Below w'.heap.size w' w2) := fun w' hb => kn_parse kp2 (by decide) (by decide) w' (hg.to hb hB)
  have H3 : Hid (∀ w', Below w.heap.size w w' → Calls Tryz.prog 18 #[.string ⟨#[114, 117, 112, 32, 49, 32, 120, 49, 32, 62, 61, 32, 49]⟩] w' fun e w2 => ∃ oa3 oc3 pa3 pc3 la3 lc3 ia3 ic3, e = .returned (.tuple #[.agg #[.int .i64 0, .string ⟨#[]⟩, .slice oa3 0 oc3, .slice pa3 0 pc3, .string ⟨#[]⟩, .slice la3 0 lc3, .slice ia3 0 ic3, .int .i64 0, .string ⟨#[]⟩, .string ⟨#[]⟩], .int .i64 82]) ∧ SlR w2 kd3 (.slice oa3 kd3.ops.length oc3) (.slice pa3 kd3.pcs.length pc3) (.slice la3 kd3.lits.length lc3) (.slice ia3 kd3.ids.length ic3) ∧ Below w'.heap.size w' w2) := fun w' hb => kn_parse kp3 (by decide) (by decide) w' (hg.to hb hB)
  have H4 : Hid (∀ w', Below w.heap.size w w' → Calls Tryz.prog 13 #[.agg #[.int .i64 4, .string ⟨#[]⟩, .slice none 0 0, .slice (some ⟨w'.heap.size, 0, none⟩) 2 2, .string ⟨#[48]⟩, .slice none 0 0, .slice none 0 0, .int .i64 0, .string ⟨#[]⟩, .string ⟨#[]⟩]] (w'.alloc (.cells #[.string ⟨#[50]⟩, .int .i64 1, .string ⟨#[45, 51]⟩, .int .i64 (-2)] 82)) fun e w2 => e = .returned (.tuple #[.string ⟨#[114, 117, 112, 32, 50, 32, 120, 49, 32, 45, 51, 32, 126, 120, 50, 32, 62, 61, 32, 48, 32, 59]⟩, .int .i64 0]) ∧ Below w'.heap.size w' w2) := fun w' hb => kn_print w' (hg.to hb hB) (Nat.le_trans hB hb.size)
  have HN : Hid (∀ n w', Calls Tryz.prog 14 #[.int .i64 n] w' fun e w2 => e = .returned (.int .i64 n) ∧ w2 = w') := num_any
  clear hg
  go_enter Tryz.func7, Tryz.ntmps7
  go_wp2_with fail
  refine calls_at (H0.out w (Below.refl _ _)) (by with_reducible rfl) (by with_reducible rfl) ?_
  rintro e u0 ⟨oa0, oc0, pa0, pc0, la0, lc0, ia0, ic0, rfl, h, hb⟩
  have HR0 : Hid (SlR u0 kd0 (.slice oa0 kd0.ops.length oc0) (.slice pa0 kd0.pcs.length pc0) (.slice la0 kd0.lits.length lc0) (.slice ia0 kd0.ids.length ic0)) := h
  have hbu : Below w.heap.size w u0 := hb
  have HU0 : Hid (Below w.heap.size w u0) := hbu
  have HH0 : Hid (Below w.heap.size w u0) := hb
  clear h hb hbu
  go_wp2_with fail
  have hbu := HU0.out
  have hb := HH0.out
  obtain ⟨V0, hV0⟩ : ∃ V, u0.alloc (.cells #[.int .i64 3, .string ⟨#[]⟩, .slice oa0 9 oc0, .slice pa0 0 pc0, .string ⟨#[]⟩, .slice la0 0 lc0, .slice ia0 0 ic0, .int .i64 0, .string ⟨#[]⟩, .string ⟨#[]⟩] 45) = V := ⟨_, rfl⟩
  have hbV : Below u0.heap.size u0 V0 := by rw [← hV0]; exact (Below.refl _ _).alloc (Nat.le_refl _) _
  have HB0 : Hid (Below w.heap.size w V0) := bl_next hbu hbV
  have HG0 : Hid (V0.heap[u0.heap.size]? = some (.cells #[.int .i64 3, .string ⟨#[]⟩, .slice oa0 9 oc0, .slice pa0 0 pc0, .string ⟨#[]⟩, .slice la0 0 lc0, .slice ia0 0 ic0, .int .i64 0, .string ⟨#[]⟩, .string ⟨#[]⟩] 45 (0, 0))) := by show _ = _; rw [← hV0]; exact heap_alloc_new u0 _
  have HS0 : Hid (Below u0.heap.size u0 V0) := hbV
  rw [hV0]
  clear hb hbu hbV hV0
  refine calls_at (H1.out V0 HB0.out) (by with_reducible rfl) (by with_reducible rfl) ?_
  rintro e u1 ⟨oa1, oc1, pa1, pc1, la1, lc1, ia1, ic1, rfl, h, hb⟩
  have HR1 : Hid (SlR u1 kd1 (.slice oa1 kd1.ops.length oc1) (.slice pa1 kd1.pcs.length pc1) (.slice la1 kd1.lits.length lc1) (.slice ia1 kd1.ids.length ic1)) := h
  have hbu : Below w.heap.size w u1 := bl_next HB0.out hb
  have HU1 : Hid (Below w.heap.size w u1) := hbu
  have HH1 : Hid (Below V0.heap.size V0 u1) := hb
  clear h hb hbu
  go_wp2_with fail
  have hbu := HU1.out
  have hb := HH1.out
  obtain ⟨V1, hV1⟩ : ∃ V, u1.alloc (.cells #[.int .i64 9, .string ⟨#[]⟩, .slice oa1 0 oc1, .slice pa1 0 pc1, .string ⟨#[]⟩, .slice la1 0 lc1, .slice ia1 1 ic1, .int .i64 5, .string ⟨#[51]⟩, .string ⟨#[51]⟩] 45) = V := ⟨_, rfl⟩
  have hbV : Below u1.heap.size u1 V1 := by rw [← hV1]; exact (Below.refl _ _).alloc (Nat.le_refl _) _
  have HB1 : Hid (Below w.heap.size w V1) := bl_next hbu hbV
  have HG1 : Hid (V1.heap[u1.heap.size]? = some (.cells #[.int .i64 9, .string ⟨#[]⟩, .slice oa1 0 oc1, .slice pa1 0 pc1, .string ⟨#[]⟩, .slice la1 0 lc1, .slice ia1 1 ic1, .int .i64 5, .string ⟨#[51]⟩, .string ⟨#[51]⟩] 45 (0, 0))) := by show _ = _; rw [← hV1]; exact heap_alloc_new u1 _
  have HQ01 : Hid (Below V0.heap.size V0 V1) := bl_next (bl_next (Below.refl _ _) hb) hbV
  have HS1 : Hid (Below u1.heap.size u1 V1) := hbV
  rw [hV1]
  clear hb hbu hbV hV1
  refine calls_at (H2.out V1 HB1.out) (by with_reducible rfl) (by with_reducible rfl) ?_
  rintro e u2 ⟨oa2, oc2, pa2, pc2, la2, lc2, ia2, ic2, rfl, h, hb⟩
  have HR2 : Hid (SlR u2 kd2 (.slice oa2 kd2.ops.length oc2) (.slice pa2 kd2.pcs.length pc2) (.slice la2 kd2.lits.length lc2) (.slice ia2 kd2.ids.length ic2)) := h
  have hbu : Below w.heap.size w u2 := bl_next HB1.out hb
  have HU2 : Hid (Below w.heap.size w u2) := hbu
  have HH2 : Hid (Below V1.heap.size V1 u2) := hb
  clear h hb hbu
  go_wp2_with fail
  have hbu := HU2.out
  have hb := HH2.out
  obtain ⟨V2, hV2⟩ : ∃ V, u2.alloc (.cells #[.int .i64 0, .string ⟨#[]⟩, .slice oa2 0 oc2, .slice pa2 0 pc2, .string ⟨#[]⟩, .slice la2 0 lc2, .slice ia2 0 ic2, .int .i64 0, .string ⟨#[]⟩, .string ⟨#[]⟩] 45) = V := ⟨_, rfl⟩
  have hbV : Below u2.heap.size u2 V2 := by rw [← hV2]; exact (Below.refl _ _).alloc (Nat.le_refl _) _
  have HB2 : Hid (Below w.heap.size w V2) := bl_next hbu hbV
  have HG2 : Hid (V2.heap[u2.heap.size]? = some (.cells #[.int .i64 0, .string ⟨#[]⟩, .slice oa2 0 oc2, .slice pa2 0 pc2, .string ⟨#[]⟩, .slice la2 0 lc2, .slice ia2 0 ic2, .int .i64 0, .string ⟨#[]⟩, .string ⟨#[]⟩] 45 (0, 0))) := by show _ = _; rw [← hV2]; exact heap_alloc_new u2 _
  have HQ02 : Hid (Below V0.heap.size V0 V2) := bl_next (bl_next HQ01.out hb) hbV
  have HQ12 : Hid (Below V1.heap.size V1 V2) := bl_next (bl_next (Below.refl _ _) hb) hbV
  rw [hV2]
  clear hb hbu hbV hV2
  refine calls_at (H3.out V2 HB2.out) (by with_reducible rfl) (by with_reducible rfl) ?_
  rintro e u3 ⟨oa3, oc3, pa3, pc3, la3, lc3, ia3, ic3, rfl, h, hb⟩
  have HR3 : Hid (SlR u3 kd3 (.slice oa3 kd3.ops.length oc3) (.slice pa3 kd3.pcs.length pc3) (.slice la3 kd3.lits.length lc3) (.slice ia3 kd3.ids.length ic3)) := h
  have hbu : Below w.heap.size w u3 := bl_next HB2.out hb
  have HU3 : Hid (Below w.heap.size w u3) := hbu
  have HH3 : Hid (Below V2.heap.size V2 u3) := hb
  clear h hb hbu
  go_wp2_with fail
  have hbu := HU3.out
  have hb := HH3.out
  obtain ⟨V3, hV3⟩ : ∃ V, u3.alloc (.cells #[.int .i64 0, .string ⟨#[]⟩, .slice oa3 0 oc3, .slice pa3 0 pc3, .string ⟨#[]⟩, .slice la3 0 lc3, .slice ia3 0 ic3, .int .i64 0, .string ⟨#[]⟩, .string ⟨#[]⟩] 45) = V := ⟨_, rfl⟩
  have hbV : Below u3.heap.size u3 V3 := by rw [← hV3]; exact (Below.refl _ _).alloc (Nat.le_refl _) _
  have HB3 : Hid (Below w.heap.size w V3) := bl_next hbu hbV
  have HG3 : Hid (V3.heap[u3.heap.size]? = some (.cells #[.int .i64 0, .string ⟨#[]⟩, .slice oa3 0 oc3, .slice pa3 0 pc3, .string ⟨#[]⟩, .slice la3 0 lc3, .slice ia3 0 ic3, .int .i64 0, .string ⟨#[]⟩, .string ⟨#[]⟩] 45 (0, 0))) := by show _ = _; rw [← hV3]; exact heap_alloc_new u3 _
  have HQ03 : Hid (Below V0.heap.size V0 V3) := bl_next (bl_next HQ02.out hb) hbV
  have HQ13 : Hid (Below V1.heap.size V1 V3) := bl_next (bl_next HQ12.out hb) hbV
  have HQ23 : Hid (Below V2.heap.size V2 V3) := bl_next (bl_next (Below.refl _ _) hb) hbV
  have hs3 : V3.heap.size = u3.heap.size + 1 := by rw [← hV3]; simp
  rw [hV3]
  clear hb hbu hbV hV3
  have H4' := H4.out V3 HB3.out
  rw [hs3] at H4'
  refine calls_at H4' (by with_reducible rfl) (by with_reducible rfl) ?_
  rintro e w5 ⟨rfl, hb5⟩
  rw [← hs3] at hb5
  clear H4' hs3
  have HB5 : Hid (Below w.heap.size w w5) := bl_next HB3.out hb5
  have q0 : Below V0.heap.size V0 w5 := bl_next HQ03.out hb5
  have q1 : Below V1.heap.size V1 w5 := bl_next HQ13.out hb5
  have g0 := (q0.block _ (Array.getElem?_eq_some_iff.1 HG0.out).1).trans HG0.out
  have g1 := (q1.block _ (Array.getElem?_eq_some_iff.1 HG1.out).1).trans HG1.out
  have r0 := (HR0.out.below (HS0.out)).below q0
  obtain ⟨a0, c0, e0, _, hc0⟩ := r0.o
  injection e0 with e1 e2 e3
  subst e1
  obtain ⟨g, off, rfl, _, hcell⟩ := hc0 (by decide)
  have x0 : w5.cell? ⟨g, off + 12, none⟩ = some (.int .i64 7) := hcell 12 _ (by kernel_rfl)
  have x1 : w5.cell? ⟨g, off + 12 + 1, none⟩ = some (.string ⟨#[]⟩) := hcell 13 _ (by kernel_rfl)
  have x2 : w5.cell? ⟨g, off + 12 + 2, none⟩ = some (.int .i64 5) := hcell 14 _ (by kernel_rfl)
  have y0 : w5.cell? ⟨g, off + 18, none⟩ = some (.int .i64 2) := hcell 18 _ (by kernel_rfl)
  have y1 : w5.cell? ⟨g, off + 18 + 1, none⟩ = some (.string ⟨#[]⟩) := hcell 19 _ (by kernel_rfl)
  have y2 : w5.cell? ⟨g, off + 18 + 2, none⟩ = some (.int .i64 (-1)) := hcell 20 _ (by kernel_rfl)
  have m2 := cell_of g0 2
  have n6 := cell_of g1 6
  have n8 := cell_of g1 8
  have n9 := cell_of g1 9
  dsimp at m2 n6 n8 n9
  have hq1 : ∀ W, (binOp .eql 84 (.agg #[.int .i64 7, .string ⟨#[]⟩, .int .i64 5]) (.agg #[.int .i64 7, .string ⟨#[]⟩, .int .i64 5])).run Tryz.prog W = .ok (.bool true) W := fun W => by rw [op_eql]; simp
  have hq2 : ∀ W, (binOp .eql 84 (.agg #[.int .i64 2, .string ⟨#[]⟩, .int .i64 (-1)]) (.agg #[.int .i64 2, .string ⟨#[]⟩, .int .i64 (-1)])).run Tryz.prog W = .ok (.bool true) W := fun W => by rw [op_eql]; simp
  clear hb5 q0 q1 g0 g1 r0 hcell hc0
  go_wp2_with fail
  refine calls_at (HN.out _ _) (by with_reducible rfl) (by with_reducible rfl) ?_
  rintro e w6 ⟨rfl, rfl⟩
  go_wp2_with fail
  refine calls_at (HN.out _ _) (by with_reducible rfl) (by with_reducible rfl) ?_
  rintro e w7 ⟨rfl, rfl⟩
  go_wp2_with fail
  refine calls_at (HN.out _ _) (by with_reducible rfl) (by with_reducible rfl) ?_
  rintro e w8 ⟨rfl, rfl⟩
  go_wp2_with fail
  refine calls_at (HN.out _ _) (by with_reducible rfl) (by with_reducible rfl) ?_
  rintro e w9 ⟨rfl, rfl⟩
  go_wp2_with fail
  refine calls_at (HN.out _ _) (by with_reducible rfl) (by with_reducible rfl) ?_
  rintro e w10 ⟨rfl, rfl⟩
  go_wp2_with fail
  go_ret
  exact ⟨rfl, HB5.out⟩
end Go.Proofs.YtibbnijicdijnaaGreatDoor

namespace Go.Proofs.YtibbnijicdijnaaGreatDoor
open Go.RowKit

set_option maxRecDepth 10000 in
theorem wrt_nothing : Wrt 82 fun _ => [] := by
  intro B b l d vo vp vl vi w h hs hi hl hBw hg hB
  have hbW : Below w.heap.size w (w.alloc (.cells (slC d vo vp vl vi) 45)) := (Below.refl _ _).alloc (Nat.le_refl _) _
  have HE : Hid (PageAt B b l (w.alloc (.cells (slC d vo vp vl vi) 45)) ∧ Kq B w (w.alloc (.cells (slC d vo vp vl vi) 45))) := ⟨page_below h hbW, Kq.of_below hbW hBw⟩
  have HE2 : Hid (PageAt B b l w ∧ Kq B w w) := ⟨h, Kq.refl _ _⟩
  obtain ⟨ao, co, rfl, _, _⟩ := hs.o
  obtain ⟨ap, cp, rfl, _, _⟩ := hs.p
  obtain ⟨al, cl, rfl, _, _⟩ := hs.l
  obtain ⟨ai, ci, rfl, _, _⟩ := hs.i
  unfold slC at HE
  unfold WrO slC
  clear h hs hi hl hg hbW
  go_enter Tryz.func82, Tryz.ntmps82
  go_wp2_with fail
  go_end0
  first | exact ⟨rfl, HE.out⟩ | exact ⟨rfl, HE2.out⟩
set_option maxRecDepth 10000 in
set_option maxHeartbeats 2000000 in
theorem wrt_size : Wrt 84 fun d => [d.n] := by
  intro B b l d vo vp vl vi w h hs hi hl hBw hg hB
  obtain ⟨W, hW⟩ : ∃ W, w.alloc (.cells (slC d vo vp vl vi) 45) = W := ⟨_, rfl⟩
  have hbW : Below w.heap.size w W := by rw [← hW]; exact (Below.refl _ _).alloc (Nat.le_refl _) _
  have kW : Kq B w W := Kq.of_below hbW hBw
  have hBW : B ≤ W.heap.size := Nat.le_trans hBw hbW.size
  have gW : W.heap[w.heap.size]? = some (.cells (slC d vo vp vl vi) 45 (0, 0)) := by rw [← hW]; exact heap_alloc_new w _
  have HKW : Hid (Kq B w W) := kW
  have c0 := cell_of gW 1
  have HC : Hid (Calls Tryz.prog 80 #[.pointer (some ⟨b, 0, none⟩), .slice (some ⟨W.heap.size, 0, none⟩) 1 1] (W.alloc (.cells #[.string (txtOf d.n)] 9)) fun e w' => e = .returned (.pointer (some ⟨b, 0, none⟩)) ∧ PageAt B b (wordsP [d.n] l) w' ∧ Kq B W w') := words_one d.n W (page_below h hbW) (by simpa [tot] using hl) hBW
  obtain ⟨ao, co, rfl, _, _⟩ := hs.o
  obtain ⟨ap, cp, rfl, _, _⟩ := hs.p
  obtain ⟨al, cl, rfl, _, _⟩ := hs.l
  obtain ⟨ai, ci, rfl, _, _⟩ := hs.i
  unfold slC at hW
  unfold WrO slC
  simp only [slC] at c0
  dsimp at c0
  clear h hs hi hl hg hbW kW gW
  go_enter Tryz.func84, Tryz.ntmps84
  go_wp2_with fail
  refine calls_at HC.out (by with_reducible rfl) (by with_reducible rfl) ?_
  rintro e w2 ⟨rfl, hp2, hk2⟩
  have H2 : Hid (PageAt B b (wordsP ([d.n]) l) w2 ∧ Kq B w w2) := ⟨hp2, HKW.out.trans hk2⟩
  clear hp2 hk2
  go_wp2_with fail
  go_end0
  exact ⟨rfl, H2.out⟩
set_option maxRecDepth 10000 in
set_option maxHeartbeats 2000000 in
theorem wrt_lits : Wrt 92 fun d => d.lits.map litT := by
  intro B b l d vo vp vl vi w h hs hi hl hBw hg hB
  obtain ⟨W, hW⟩ : ∃ W, w.alloc (.cells (slC d vo vp vl vi) 45) = W := ⟨_, rfl⟩
  have hbW : Below w.heap.size w W := by rw [← hW]; exact (Below.refl _ _).alloc (Nat.le_refl _) _
  have kW : Kq B w W := Kq.of_below hbW hBw
  have hBW : B ≤ W.heap.size := Nat.le_trans hBw hbW.size
  have gW : W.heap[w.heap.size]? = some (.cells (slC d vo vp vl vi) 45 (0, 0)) := by rw [← hW]; exact heap_alloc_new w _
  have HKW : Hid (Kq B w W) := kW
  have c0 := cell_of gW 5
  have HC : Hid (Calls Tryz.prog 128 #[.pointer (some ⟨b, 0, none⟩), vl] W fun e w' => e = .returned (.pointer (some ⟨b, 0, none⟩)) ∧ PageAt B b (wordsP (d.lits.map litT) l) w' ∧ Kq B W w') := literals_any d.lits vl W (page_below h hbW) (hs.l.next kW) hl hi.l hBW (hg.kq kW hB) hB
  obtain ⟨ao, co, rfl, _, _⟩ := hs.o
  obtain ⟨ap, cp, rfl, _, _⟩ := hs.p
  obtain ⟨al, cl, rfl, _, _⟩ := hs.l
  obtain ⟨ai, ci, rfl, _, _⟩ := hs.i
  unfold slC at hW
  unfold WrO slC
  simp only [slC] at c0
  dsimp at c0
  clear h hs hi hl hg hbW kW gW
  go_enter Tryz.func92, Tryz.ntmps92
  go_wp2_with fail
  refine calls_at HC.out (by with_reducible rfl) (by with_reducible rfl) ?_
  rintro e w2 ⟨rfl, hp2, hk2⟩
  have H2 : Hid (PageAt B b (wordsP (d.lits.map litT) l) w2 ∧ Kq B w w2) := ⟨hp2, HKW.out.trans hk2⟩
  clear hp2 hk2
  go_wp2_with fail
  go_end0
  exact ⟨rfl, H2.out⟩
set_option maxRecDepth 10000 in
set_option maxHeartbeats 2000000 in
theorem wrt_del : Wrt 94 fun d => d.ids := by
  intro B b l d vo vp vl vi w h hs hi hl hBw hg hB
  obtain ⟨W, hW⟩ : ∃ W, w.alloc (.cells (slC d vo vp vl vi) 45) = W := ⟨_, rfl⟩
  have hbW : Below w.heap.size w W := by rw [← hW]; exact (Below.refl _ _).alloc (Nat.le_refl _) _
  have kW : Kq B w W := Kq.of_below hbW hBw
  have hBW : B ≤ W.heap.size := Nat.le_trans hBw hbW.size
  have gW : W.heap[w.heap.size]? = some (.cells (slC d vo vp vl vi) 45 (0, 0)) := by rw [← hW]; exact heap_alloc_new w _
  have HKW : Hid (Kq B w W) := kW
  have c0 := cell_of gW 6
  have HC : Hid (Calls Tryz.prog 80 #[.pointer (some ⟨b, 0, none⟩), vi] W fun e w' => e = .returned (.pointer (some ⟨b, 0, none⟩)) ∧ PageAt B b (wordsP d.ids l) w' ∧ Kq B W w') := words_any d.ids vi W (page_below h hbW) (hs.i.next kW) hl hBW
  obtain ⟨ao, co, rfl, _, _⟩ := hs.o
  obtain ⟨ap, cp, rfl, _, _⟩ := hs.p
  obtain ⟨al, cl, rfl, _, _⟩ := hs.l
  obtain ⟨ai, ci, rfl, _, _⟩ := hs.i
  unfold slC at hW
  unfold WrO slC
  simp only [slC] at c0
  dsimp at c0
  clear h hs hi hl hg hbW kW gW
  go_enter Tryz.func94, Tryz.ntmps94
  go_wp2_with fail
  refine calls_at HC.out (by with_reducible rfl) (by with_reducible rfl) ?_
  rintro e w2 ⟨rfl, hp2, hk2⟩
  have H2 : Hid (PageAt B b (wordsP (d.ids) l) w2 ∧ Kq B w w2) := ⟨hp2, HKW.out.trans hk2⟩
  clear hp2 hk2
  go_wp2_with fail
  go_end0
  exact ⟨rfl, H2.out⟩
end Go.Proofs.YtibbnijicdijnaaGreatDoor
