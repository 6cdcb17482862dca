/-
  Put together: PfPSame, PfPrint, PfKn, PfWr5.
-/
import Derived.Test.YtibbnijicdijnaaGreatDoorJ37
import Derived.Test.YtibbnijicdijnaaGreatDoorPfWr4
import Derived.Test.YtibbnijicdijnaaGreatDoorJ36
namespace Go.Proofs.YtibbnijicdijnaaGreatDoor
open Go.RowKit

set_option maxRecDepth 10000 in
set_option maxHeartbeats 2000000 in
theorem psame_eq (d : SL) (vo vp vl vi vo2 vp2 vl2 vi2 : Value) (w : World) (h : SlR w d vo vp vl vi) (h' : SlR w d vo2 vp2 vl2 vi2) : Calls Tryz.prog 41 #[.agg (slC d vo vp vl vi), .agg (slC d vo2 vp2 vl2 vi2)] w fun e w' => e = .returned (.bool true) ∧ Below w.heap.size w w' := by
  have hn1 := txt_beq d.n d.n
  have hn2 := txt_beq d.low d.low
  have hn3 := txt_beq d.high d.high
  rw [decide_eq_true rfl] at hn1 hn2 hn3
  obtain ⟨oa, oc, rfl, ho, _⟩ := id h.o
  obtain ⟨oa2, oc2, rfl, _, _⟩ := id h'.o
  obtain ⟨pa, pc, rfl, hp, _⟩ := id h.p
  obtain ⟨pa2, pc2, rfl, _, _⟩ := id h'.p
  obtain ⟨la, lc, rfl, hl, _⟩ := id h.l
  obtain ⟨la2, lc2, rfl, _, _⟩ := id h'.l
  obtain ⟨ia, ic, rfl, hi, _⟩ := id h.i
  obtain ⟨ia2, ic2, rfl, _, _⟩ := id h'.i
  unfold slC
  have H62 : Hid (∀ w', Below w.heap.size w w' → Calls Tryz.prog 62 #[.slice pa d.pcs.length pc, .slice pa2 d.pcs.length pc2] w' fun e w2 => e = .returned (.bool true) ∧ Below w'.heap.size w' w2) := fun w' hb => eq62 d.pcs _ _ w' (h.below hb).p (h'.below hb).p
  have H63 : Hid (∀ w', Below w.heap.size w w' → Calls Tryz.prog 63 #[.slice oa d.ops.length oc, .slice oa2 d.ops.length oc2] w' fun e w2 => e = .returned (.bool true) ∧ Below w'.heap.size w' w2) := fun w' hb => eq63 d.ops _ _ w' (h.below hb).o (h'.below hb).o
  have H64 : Hid (∀ w', Below w.heap.size w w' → Calls Tryz.prog 64 #[.slice la d.lits.length lc, .slice la2 d.lits.length lc2] w' fun e w2 => e = .returned (.bool true) ∧ Below w'.heap.size w' w2) := fun w' hb => eq64 d.lits _ _ w' (h.below hb).l (h'.below hb).l
  have H65 : Hid (∀ w', Below w.heap.size w w' → Calls Tryz.prog 65 #[.slice ia d.ids.length ic, .slice ia2 d.ids.length ic2] w' fun e w2 => e = .returned (.bool true) ∧ Below w'.heap.size w' w2) := fun w' hb => eq65 d.ids _ _ w' (h.below hb).i (h'.below hb).i
  obtain ⟨N, hN⟩ : ∃ N, txtOf d.n = N := ⟨_, rfl⟩
  obtain ⟨D, hD⟩ : ∃ D, txtOf d.deg = D := ⟨_, rfl⟩
  obtain ⟨Lo, hLo⟩ : ∃ D, txtOf d.low = D := ⟨_, rfl⟩
  obtain ⟨Hi, hHi⟩ : ∃ D, txtOf d.high = D := ⟨_, rfl⟩
  rw [hN] at hn1
  rw [hLo] at hn2
  rw [hHi] at hn3
  have hn4 := txt_beq d.deg d.deg
  rw [decide_eq_true rfl, hD] at hn4
  rw [hN, hD, hLo, hHi]
  obtain ⟨W, hW⟩ : ∃ W, (w.alloc (.cells #[.int .i64 d.k, .string N, .slice oa d.ops.length oc, .slice pa d.pcs.length pc, .string D, .slice la d.lits.length lc, .slice ia d.ids.length ic, .int .i64 d.ends, .string Lo, .string Hi] 45)).alloc (.cells #[.int .i64 d.k, .string N, .slice oa2 d.ops.length oc2, .slice pa2 d.pcs.length pc2, .string D, .slice la2 d.lits.length lc2, .slice ia2 d.ids.length ic2, .int .i64 d.ends, .string Lo, .string Hi] 45) = W := ⟨_, rfl⟩
  have hb0 : Below w.heap.size w W := by rw [← hW]; exact ((Below.refl _ _).alloc (Nat.le_refl _) _).alloc (by simp) _
  have g0 : W.heap[w.heap.size]? = some (.cells #[.int .i64 d.k, .string N, .slice oa d.ops.length oc, .slice pa d.pcs.length pc, .string D, .slice la d.lits.length lc, .slice ia d.ids.length ic, .int .i64 d.ends, .string Lo, .string Hi] 45 (0, 0)) := by rw [← hW, heap_alloc_old (w.alloc _) _ (by simp)]; exact heap_alloc_new w _
  have g1 : W.heap[w.heap.size + 1]? = some (.cells #[.int .i64 d.k, .string N, .slice oa2 d.ops.length oc2, .slice pa2 d.pcs.length pc2, .string D, .slice la2 d.lits.length lc2, .slice ia2 d.ids.length ic2, .int .i64 d.ends, .string Lo, .string Hi] 45 (0, 0)) := by rw [← hW]; exact heap_alloc2_new w _ _
  have hl0 := (Array.getElem?_eq_some_iff.1 g0).1
  have hl1 := (Array.getElem?_eq_some_iff.1 g1).1
  have HB : Hid (Below w.heap.size w W) := hb0
  have HM : Hid (∀ w', Below W.heap.size W w' → (w'.cell? ⟨w.heap.size, 0, none⟩ = some (.int .i64 d.k) ∧ w'.cell? ⟨w.heap.size, 1, none⟩ = some (.string N) ∧ w'.cell? ⟨w.heap.size, 2, none⟩ = some (.slice oa d.ops.length oc) ∧ w'.cell? ⟨w.heap.size, 3, none⟩ = some (.slice pa d.pcs.length pc) ∧ w'.cell? ⟨w.heap.size, 4, none⟩ = some (.string D) ∧ w'.cell? ⟨w.heap.size, 5, none⟩ = some (.slice la d.lits.length lc) ∧ w'.cell? ⟨w.heap.size, 6, none⟩ = some (.slice ia d.ids.length ic) ∧ w'.cell? ⟨w.heap.size, 7, none⟩ = some (.int .i64 d.ends) ∧ w'.cell? ⟨w.heap.size, 8, none⟩ = some (.string Lo) ∧ w'.cell? ⟨w.heap.size, 9, none⟩ = some (.string Hi)) ∧ (w'.cell? ⟨w.heap.size + 1, 0, none⟩ = some (.int .i64 d.k) ∧ w'.cell? ⟨w.heap.size + 1, 1, none⟩ = some (.string N) ∧ w'.cell? ⟨w.heap.size + 1, 2, none⟩ = some (.slice oa2 d.ops.length oc2) ∧ w'.cell? ⟨w.heap.size + 1, 3, none⟩ = some (.slice pa2 d.pcs.length pc2) ∧ w'.cell? ⟨w.heap.size + 1, 4, none⟩ = some (.string D) ∧ w'.cell? ⟨w.heap.size + 1, 5, none⟩ = some (.slice la2 d.lits.length lc2) ∧ w'.cell? ⟨w.heap.size + 1, 6, none⟩ = some (.slice ia2 d.ids.length ic2) ∧ w'.cell? ⟨w.heap.size + 1, 7, none⟩ = some (.int .i64 d.ends) ∧ w'.cell? ⟨w.heap.size + 1, 8, none⟩ = some (.string Lo) ∧ w'.cell? ⟨w.heap.size + 1, 9, none⟩ = some (.string Hi))) := fun w' hb => by
    have f0 := (hb.block _ hl0).trans g0
    have f1 := (hb.block _ hl1).trans g1
    exact ⟨⟨cell_of f0 0, cell_of f0 1, cell_of f0 2, cell_of f0 3, cell_of f0 4, cell_of f0 5, cell_of f0 6, cell_of f0 7, cell_of f0 8, cell_of f0 9⟩, cell_of f1 0, cell_of f1 1, cell_of f1 2, cell_of f1 3, cell_of f1 4, cell_of f1 5, cell_of f1 6, cell_of f1 7, cell_of f1 8, cell_of f1 9⟩
  obtain ⟨⟨m0, m1, m2, m3, m4, m5, m6, m7, m8, m9⟩, n0, n1, n2, n3, n4, n5, n6, n7, n8, n9⟩ := HM.out W (Below.refl _ _)
  clear hb0 g0 g1 hl0 hl1 h h' hN hD hLo hHi
  go_enter Tryz.func41, Tryz.ntmps41
  go_wp2_with fail
  refine calls_at (H62.out W HB.out) (by with_reducible rfl) (by with_reducible rfl) ?_
  rintro e w1 ⟨rfl, hb1⟩
  have HB1 : Hid (Below W.heap.size W w1) := hb1
  clear hb1 m0 m1 m2 m3 m4 m5 m6 m7 m8 m9 n0 n1 n2 n3 n4 n5 n6 n7 n8 n9
  obtain ⟨⟨_, _, m2, _, _, _, _, _, _, _⟩, _, _, n2, _, _, _, _, _, _, _⟩ := HM.out w1 HB1.out
  go_wp2_with fail
  refine calls_at (H63.out w1 (HB.out.trans (HB1.out.mono HB.out.size))) (by with_reducible rfl) (by with_reducible rfl) ?_
  rintro e w2 ⟨rfl, hb2⟩
  have HB2 : Hid (Below W.heap.size W w2) := bl_next HB1.out hb2
  clear hb2 m2 n2
  obtain ⟨⟨_, _, _, _, _, m5, _, _, _, _⟩, _, _, _, _, _, n5, _, _, _, _⟩ := HM.out w2 HB2.out
  go_wp2_with fail
  refine calls_at (H64.out w2 (HB.out.trans (HB2.out.mono HB.out.size))) (by with_reducible rfl) (by with_reducible rfl) ?_
  rintro e w3 ⟨rfl, hb3⟩
  have HB3 : Hid (Below W.heap.size W w3) := bl_next HB2.out hb3
  clear hb3 m5 n5
  obtain ⟨⟨_, _, _, _, _, _, m6, _, _, _⟩, _, _, _, _, _, _, n6, _, _, _⟩ := HM.out w3 HB3.out
  go_wp2_with fail
  refine calls_at (H65.out w3 (HB.out.trans (HB3.out.mono HB.out.size))) (by with_reducible rfl) (by with_reducible rfl) ?_
  rintro e w4 ⟨rfl, hb4⟩
  have HB4 : Hid (Below W.heap.size W w4) := bl_next HB3.out hb4
  clear hb4 m6 n6
  go_wp2_with fail
  go_ret
  exact ⟨rfl, HB.out.trans (HB4.out.mono HB.out.size)⟩
end Go.Proofs.YtibbnijicdijnaaGreatDoor

namespace Go.Proofs.YtibbnijicdijnaaGreatDoor
open Go.RowKit

theorem rd_of_own {w : World} {B : Nat} {e : TypeId} {m : Nat} {v : Value} {n : Nat} {xs : List Value} (h : w.ownsRow B e m v n xs) (hn : n ≤ 9223372036854775807) : RdAt w v n xs := by
  have hc := fun g hg => h.cells (g := g) hg
  rcases h.2 with ⟨rfl, rfl⟩ | ⟨g, cap, cur, rfl, _, hg, _⟩
  · exact ⟨none, 0, rfl, hn, fun h0 => absurd h0 (Nat.lt_irrefl _)⟩
  · refine ⟨_, _, rfl, hn, fun _ => ⟨g, 0, rfl, (Array.getElem?_eq_some_iff.1 hg).1, fun j u hu => ?_⟩⟩
    have := hc g rfl j u hu
    by_cases hj : j = 0
    · subst hj; simpa [Addr.add] using this
    · simpa [Addr.add, hj] using this
theorem RdAt.e {w : World} {v : Value} {n : Nat} {xs : List Value} (h : RdAt w v n xs) : RdE w.heap.size w v n xs := by
  obtain ⟨a, cap, h1, h2, h3⟩ := h
  refine ⟨a, cap, h1, h2, fun h0 => ?_⟩
  obtain ⟨g, off, e1, e2, e3⟩ := h3 h0
  exact ⟨g, off, e1, .inl e2, e2, e3⟩
theorem SlR.e {w : World} {d : SL} {vo vp vl vi : Value} (h : SlR w d vo vp vl vi) : SlE w.heap.size w d vo vp vl vi := ⟨h.o.e, h.p.e, h.l.e, h.i.e⟩
theorem SlR.few {w : World} {d : SL} {vo vp vl vi : Value} (h : SlR w d vo vp vl vi) : d.ops.length ≤ 9223372036854775807 ∧ d.pcs.length ≤ 9223372036854775807 ∧ d.lits.length ≤ 9223372036854775807 ∧ d.ids.length ≤ 9223372036854775807 := by
  obtain ⟨_, _, _, h1, _⟩ := h.o
  obtain ⟨_, _, _, h2, _⟩ := h.p
  obtain ⟨_, _, _, h3, _⟩ := h.l
  obtain ⟨_, _, _, h4, _⟩ := h.i
  exact ⟨h1, h2, h3, h4⟩

set_option maxRecDepth 10000 in
set_option maxHeartbeats 2000000 in
theorem print_eq {wf : FuncId → SL → List (List UInt8)} (d : SL) (hT : TabW formsL wf d.k) (vo vp vl vi : Value) (w : World) (hs : SlR w d vo vp vl vi) (hi : SlI d) (hl : tot (kindT formsL wf d.k d) ≤ 9000000) (x : List UInt8) (hx : wordsP (kindT formsL wf d.k d) [] = x) (h0 : x ≠ []) (hp : parseP x = (d, 0)) (hg : Gl w) (hB : 12 ≤ w.heap.size) : Calls Tryz.prog 13 #[.agg (slC d vo vp vl vi)] w fun e w' => e = .returned (.tuple #[.string (txtOf x), .int .i64 0]) ∧ Below w.heap.size w w' := by
  obtain ⟨W, hW⟩ : ∃ W, w.alloc (.cells (slC d vo vp vl vi) 45) = W := ⟨_, rfl⟩
  have hbW : Below w.heap.size w W := by rw [← hW]; exact (Below.refl _ _).alloc (Nat.le_refl _) _
  have gW : W.heap[w.heap.size]? = some (.cells (slC d vo vp vl vi) 45 (0, 0)) := by rw [← hW]; exact heap_alloc_new w _
  have hlt : w.heap.size < W.heap.size := (Array.getElem?_eq_some_iff.1 gW).1
  have hxl : x.length ≤ 9000000 := by
    have := words_len (kindT formsL wf d.k d) []
    rw [hx] at this
    simp at this
    omega
  have HWr : Hid (Calls Tryz.prog 40 #[.agg (slC d vo vp vl vi)] W fun e w' => e = .returned (.string (txtOf x)) ∧ Below W.heap.size W w') := by
    have := write_any d hT vo vp vl vi W (hs.below hbW).e hi (by omega) (by rw [hx]; exact h0) (Nat.le_refl _) (hg.next hbW) (by omega)
    rw [hx] at this
    exact this
  have HPa : Hid (∀ w', Below W.heap.size W w' → Calls Tryz.prog 18 #[.string (txtOf x)] w' fun e w2 => ∃ vo2 vp2 vl2 vi2, e = .returned (.tuple #[.agg (slC d vo2 vp2 vl2 vi2), .int .i64 0]) ∧ SlR w2 d vo2 vp2 vl2 vi2 ∧ Below w'.heap.size w' w2) := fun w' hb => by
    have := parse_any8 x w' hxl ((hg.next hbW).below hb (by omega))
    unfold PaOut at this
    rw [hp] at this
    refine this.mono fun e w2 hq => ?_
    obtain ⟨vo2, vp2, vl2, vi2, q1, q2, q3⟩ := hq
    have hf := hs.few
    exact ⟨vo2, vp2, vl2, vi2, q1, ⟨rd_of_own q2.o hf.1, rd_of_own q2.p hf.2.1, rd_of_own q2.l hf.2.2.1, rd_of_own q2.i hf.2.2.2⟩, q3⟩
  have HSm : Hid (∀ w' vo2 vp2 vl2 vi2, Below w.heap.size w w' → SlR w' d vo2 vp2 vl2 vi2 → Calls Tryz.prog 41 #[.agg (slC d vo2 vp2 vl2 vi2), .agg (slC d vo vp vl vi)] w' fun e w2 => e = .returned (.bool true) ∧ Below w'.heap.size w' w2) := fun w' vo2 vp2 vl2 vi2 hb h2 => psame_eq d _ _ _ _ _ _ _ _ w' h2 (hs.below hb)
  have HBW : Hid (Below w.heap.size w W) := hbW
  have HMx : Hid (∀ w', Below W.heap.size W w' → w'.heap[w.heap.size]? = some (.cells (slC d vo vp vl vi) 45 (0, 0))) := fun w' hb => (hb.block _ hlt).trans gW
  obtain ⟨oa, oc, rfl, _, _⟩ := id hs.o
  obtain ⟨pa, pc, rfl, _, _⟩ := id hs.p
  obtain ⟨la, lc, rfl, _, _⟩ := id hs.l
  obtain ⟨ia, ic, rfl, _, _⟩ := id hs.i
  unfold slC at hW HWr HMx gW
  have HM : Hid (∀ w', Below W.heap.size W w' → w'.cell? ⟨w.heap.size, 0, none⟩ = some (.int .i64 d.k) ∧ w'.cell? ⟨w.heap.size, 1, none⟩ = some (.string (txtOf d.n)) ∧ w'.cell? ⟨w.heap.size, 2, none⟩ = some (.slice oa d.ops.length oc) ∧ w'.cell? ⟨w.heap.size, 3, none⟩ = some (.slice pa d.pcs.length pc) ∧ w'.cell? ⟨w.heap.size, 4, none⟩ = some (.string (txtOf d.deg)) ∧ w'.cell? ⟨w.heap.size, 5, none⟩ = some (.slice la d.lits.length lc) ∧ w'.cell? ⟨w.heap.size, 6, none⟩ = some (.slice ia d.ids.length ic) ∧ w'.cell? ⟨w.heap.size, 7, none⟩ = some (.int .i64 d.ends) ∧ w'.cell? ⟨w.heap.size, 8, none⟩ = some (.string (txtOf d.low)) ∧ w'.cell? ⟨w.heap.size, 9, none⟩ = some (.string (txtOf d.high))) := fun w' hb => by
    have g := HMx.out w' hb
    exact ⟨cell_of g 0, cell_of g 1, cell_of g 2, cell_of g 3, cell_of g 4, cell_of g 5, cell_of g 6, cell_of g 7, cell_of g 8, cell_of g 9⟩
  unfold slC
  obtain ⟨m0, m1, m2, m3, m4, m5, m6, m7, m8, m9⟩ := HM.out W (Below.refl _ _)
  obtain ⟨X, hX⟩ : ∃ X, txtOf x = X := ⟨_, rfl⟩
  rw [hX] at HWr HPa
  rw [hX]
  clear hT hs hi hl hx h0 hp hg hbW gW hlt hxl HMx hX
  go_enter Tryz.func13, Tryz.ntmps13
  go_wp2_with fail
  refine calls_at HWr.out (by with_reducible rfl) (by with_reducible rfl) ?_
  rintro e w1 ⟨rfl, hb1⟩
  have HB1 : Hid (Below W.heap.size W w1) := hb1
  clear hb1 m0 m1 m2 m3 m4 m5 m6 m7 m8 m9
  go_wp2_with fail
  refine calls_at (HPa.out w1 HB1.out) (by with_reducible rfl) (by with_reducible rfl) ?_
  rintro e w2 ⟨vo2, vp2, vl2, vi2, rfl, h2, hb2⟩
  have H2 : Hid (SlR w2 d vo2 vp2 vl2 vi2) := h2
  have HB2 : Hid (Below W.heap.size W w2) := bl_next HB1.out hb2
  obtain ⟨oa2, oc2, rfl, _, _⟩ := id h2.o
  obtain ⟨pa2, pc2, rfl, _, _⟩ := id h2.p
  obtain ⟨la2, lc2, rfl, _, _⟩ := id h2.l
  obtain ⟨ia2, ic2, rfl, _, _⟩ := id h2.i
  clear hb2 h2
  unfold slC
  obtain ⟨V, hV⟩ : ∃ V, w2.alloc (.cells #[.int .i64 d.k, .string (txtOf d.n), .slice oa2 d.ops.length oc2, .slice pa2 d.pcs.length pc2, .string (txtOf d.deg), .slice la2 d.lits.length lc2, .slice ia2 d.ids.length ic2, .int .i64 d.ends, .string (txtOf d.low), .string (txtOf d.high)] 45) = V := ⟨_, rfl⟩
  have hbV : Below w2.heap.size w2 V := by rw [← hV]; exact (Below.refl _ _).alloc (Nat.le_refl _) _
  have gV : V.heap[w2.heap.size]? = some (.cells #[.int .i64 d.k, .string (txtOf d.n), .slice oa2 d.ops.length oc2, .slice pa2 d.pcs.length pc2, .string (txtOf d.deg), .slice la2 d.lits.length lc2, .slice ia2 d.ids.length ic2, .int .i64 d.ends, .string (txtOf d.low), .string (txtOf d.high)] 45 (0, 0)) := by rw [← hV]; exact heap_alloc_new w2 _
  have HBV : Hid (Below W.heap.size W V) := bl_next HB2.out hbV
  obtain ⟨m0, m1, m2, m3, m4, m5, m6, m7, m8, m9⟩ := HM.out V HBV.out
  obtain ⟨n0, n1, n2, n3, n4, n5, n6, n7, n8, n9⟩ : V.cell? ⟨w2.heap.size, 0, none⟩ = some (.int .i64 d.k) ∧ V.cell? ⟨w2.heap.size, 1, none⟩ = some (.string (txtOf d.n)) ∧ V.cell? ⟨w2.heap.size, 2, none⟩ = some (.slice oa2 d.ops.length oc2) ∧ V.cell? ⟨w2.heap.size, 3, none⟩ = some (.slice pa2 d.pcs.length pc2) ∧ V.cell? ⟨w2.heap.size, 4, none⟩ = some (.string (txtOf d.deg)) ∧ V.cell? ⟨w2.heap.size, 5, none⟩ = some (.slice la2 d.lits.length lc2) ∧ V.cell? ⟨w2.heap.size, 6, none⟩ = some (.slice ia2 d.ids.length ic2) ∧ V.cell? ⟨w2.heap.size, 7, none⟩ = some (.int .i64 d.ends) ∧ V.cell? ⟨w2.heap.size, 8, none⟩ = some (.string (txtOf d.low)) ∧ V.cell? ⟨w2.heap.size, 9, none⟩ = some (.string (txtOf d.high)) := by
    have g := gV
    exact ⟨cell_of g 0, cell_of g 1, cell_of g 2, cell_of g 3, cell_of g 4, cell_of g 5, cell_of g 6, cell_of g 7, cell_of g 8, cell_of g 9⟩
  have HS2 : Hid (Calls Tryz.prog 41 #[.agg #[.int .i64 d.k, .string (txtOf d.n), .slice oa2 d.ops.length oc2, .slice pa2 d.pcs.length pc2, .string (txtOf d.deg), .slice la2 d.lits.length lc2, .slice ia2 d.ids.length ic2, .int .i64 d.ends, .string (txtOf d.low), .string (txtOf d.high)], .agg #[.int .i64 d.k, .string (txtOf d.n), .slice oa d.ops.length oc, .slice pa d.pcs.length pc, .string (txtOf d.deg), .slice la d.lits.length lc, .slice ia d.ids.length ic, .int .i64 d.ends, .string (txtOf d.low), .string (txtOf d.high)]] V fun e w2 => e = .returned (.bool true) ∧ Below V.heap.size V w2) := HSm.out V _ _ _ _ (HBW.out.trans (HBV.out.mono HBW.out.size)) (H2.out.below hbV)
  clear hbV gV
  go_wp2_with fail
  refine calls_at HS2.out (by with_reducible rfl) (by with_reducible rfl) ?_
  rintro e w3 ⟨rfl, hb3⟩
  have HB3 : Hid (Below W.heap.size W w3) := bl_next HBV.out hb3
  clear hb3 m0 m1 m2 m3 m4 m5 m6 m7 m8 m9 n0 n1 n2 n3 n4 n5 n6 n7 n8 n9
  go_wp2_with fail
  go_ret2
  exact ⟨rfl, HBW.out.trans (HB3.out.mono HBW.out.size)⟩
end Go.Proofs.YtibbnijicdijnaaGreatDoor

namespace Go.Proofs.YtibbnijicdijnaaGreatDoor
open Go.RowKit

theorem num_any (n : Int) (w : World) : Calls Tryz.prog 14 #[.int .i64 n] w fun e w' => e = .returned (.int .i64 n) ∧ w' = w := by
  go_enter Tryz.func14, Tryz.ntmps14
  go_wp2_with fail
  go_ret
  exact ⟨rfl, rfl⟩
def kt0 : List UInt8 := [112, 111, 108, 32, 51, 32, 52, 32, 43, 32, 50, 32, 100, 32, 120, 53, 32, 119, 32, 115, 32, 126, 120, 49, 32, 51, 32, 42, 32, 43]
def kd0 : SL := ⟨3, [], [(1, [51], 0), (1, [52], 0), (3, [], 0), (5, [50], 0), (7, [], 5), (6, [], 0), (2, [], -1), (4, [51], 0), (3, [], 0)], [], [], [], [], 0, [], []⟩
theorem kp0 : parseP kt0 = (kd0, 0) := by kernel_rfl
def kt1 : List UInt8 := [99, 111, 110, 99, 108, 117, 115, 105, 111, 110, 32, 66, 79, 85, 78, 68, 83, 32, 51, 32, 58, 32, 49, 55, 32, 51]
def kd1 : SL := ⟨9, [], [], [], [], [], [[49, 55]], 5, [51], [51]⟩
theorem kp1 : parseP kt1 = (kd1, 0) := by kernel_rfl
def kt2 : List UInt8 := [112, 111, 108, 32, 51, 32, 52, 32, 45]
def kd2 : SL := SL.zero
theorem kp2 : parseP kt2 = (kd2, 80) := by kernel_rfl
def kt3 : List UInt8 := [114, 117, 112, 32, 49, 32, 120, 49, 32, 62, 61, 32, 49]
def kd3 : SL := SL.zero
theorem kp3 : parseP kt3 = (kd3, 82) := by kernel_rfl
def kt4 : List UInt8 := [114, 117, 112, 32, 50, 32, 120, 49, 32, 45, 51, 32, 126, 120, 50, 32, 62, 61, 32, 48, 32, 59]
def kd4 : SL := ⟨4, [], [], [([50], 1), ([45, 51], -2)], [48], [], [], 0, [], []⟩
theorem kp4 : parseP kt4 = (kd4, 0) := by kernel_rfl
/-- A text that is read. -/
theorem kn_parse {x : List UInt8} {d : SL} {n : Int} (hp : parseP x = (d, n)) (hx : x.length ≤ 9000000) (hf : d.ops.length ≤ 9223372036854775807 ∧ d.pcs.length ≤ 9223372036854775807 ∧ d.lits.length ≤ 9223372036854775807 ∧ d.ids.length ≤ 9223372036854775807) (w : World) (hg : Gl w) : Calls Tryz.prog 18 #[.string (txtOf x)] w fun e w' => ∃ oa oc pa pc la lc ia ic, e = .returned (.tuple #[.agg #[.int .i64 d.k, .string (txtOf d.n), .slice oa d.ops.length oc, .slice pa d.pcs.length pc, .string (txtOf d.deg), .slice la d.lits.length lc, .slice ia d.ids.length ic, .int .i64 d.ends, .string (txtOf d.low), .string (txtOf d.high)], .int .i64 n]) ∧ SlR w' d (.slice oa d.ops.length oc) (.slice pa d.pcs.length pc) (.slice la d.lits.length lc) (.slice ia d.ids.length ic) ∧ Below w.heap.size w w' := by
  have := parse_any8 x w hx hg
  unfold PaOut at this
  rw [hp] at this
  refine this.mono fun e w' hq => ?_
  obtain ⟨vo, vp, vl, vi, q1, q2, q3⟩ := hq
  have r : SlR w' d vo vp vl vi := ⟨rd_of_own q2.o hf.1, rd_of_own q2.p hf.2.1, rd_of_own q2.l hf.2.2.1, rd_of_own q2.i hf.2.2.2⟩
  obtain ⟨oa, oc, rfl⟩ := own_slice q2.o
  obtain ⟨pa, pc, rfl⟩ := own_slice q2.p
  obtain ⟨la, lc, rfl⟩ := own_slice q2.l
  obtain ⟨ia, ic, rfl⟩ := own_slice q2.i
  exact ⟨oa, oc, pa, pc, la, lc, ia, ic, q1, r, q3⟩
def knW (_ : FuncId) (d : SL) : List (List UInt8) := rowT d.pcs d.deg ++ d.ids
theorem knTab : TabW formsL knW 4 where
  leaf := by
    intro f hf
    simp only [formsL, List.mem_cons, List.not_mem_nil, or_false] at hf
    rcases hf with rfl | rfl | rfl | rfl | rfl | rfl | rfl | rfl | rfl | rfl | rfl | rfl <;> intro h <;> first | exact wrt_rup | exact absurd h (by decide)
  few := by decide
  ent := by
    intro f hf
    simp only [formsL, List.mem_cons, List.not_mem_nil, or_false] at hf
    rcases hf with rfl | rfl | rfl | rfl | rfl | rfl | rfl | rfl | rfl | rfl | rfl | rfl
    · exact Go.Proofs.enters_of Tryz.func82 (by kernel_rfl) rfl
    · exact Go.Proofs.enters_of Tryz.func84 (by kernel_rfl) rfl
    · exact Go.Proofs.enters_of Tryz.func86 (by kernel_rfl) rfl
    · exact Go.Proofs.enters_of Tryz.func88 (by kernel_rfl) rfl
    · exact Go.Proofs.enters_of Tryz.func90 (by kernel_rfl) rfl
    · exact Go.Proofs.enters_of Tryz.func92 (by kernel_rfl) rfl
    · exact Go.Proofs.enters_of Tryz.func92 (by kernel_rfl) rfl
    · exact Go.Proofs.enters_of Tryz.func94 (by kernel_rfl) rfl
    · exact Go.Proofs.enters_of Tryz.func82 (by kernel_rfl) rfl
    · exact Go.Proofs.enters_of Tryz.func82 (by kernel_rfl) rfl
    · exact Go.Proofs.enters_of Tryz.func97 (by kernel_rfl) rfl
    · exact Go.Proofs.enters_of Tryz.func82 (by kernel_rfl) rfl
theorem kn_line : wordsP (kindT formsL knW 4 kd4) [] = kt4 := by kernel_rfl
theorem kn_tot : tot (kindT formsL knW kd4.k kd4) = 23 := by kernel_rfl
theorem kn_pcs (w : World) : RdAt (w.alloc (.cells #[.string ⟨#[50]⟩, .int .i64 1, .string ⟨#[45, 51]⟩, .int .i64 (-2)] 82)) (.slice (some ⟨w.heap.size, 0, none⟩) 2 2) 2 (pcsC kd4.pcs) := by
  have hg := heap_alloc_new w (.cells #[.string ⟨#[50]⟩, .int .i64 1, .string ⟨#[45, 51]⟩, .int .i64 (-2)] 82)
  refine ⟨_, _, rfl, by omega, fun _ => ⟨w.heap.size, 0, rfl, (Array.getElem?_eq_some_iff.1 hg).1, fun j u hu => ?_⟩⟩
  rw [Nat.zero_add, cell_of hg]
  rw [show pcsC kd4.pcs = [.string ⟨#[50]⟩, .int .i64 1, .string ⟨#[45, 51]⟩, .int .i64 (-2)] from by kernel_rfl] at hu
  simpa using hu
theorem kn_nil (w : World) (xs : List Value) : RdAt w (.slice none 0 0) 0 xs := ⟨none, 0, rfl, by omega, fun h => absurd h (Nat.lt_irrefl _)⟩
/-- Print of the chapter's step. -/
theorem kn_print (w : World) (hg : Gl w) (hB : 12 ≤ w.heap.size) : Calls Tryz.prog 13 #[.agg #[.int .i64 4, .string ⟨#[]⟩, .slice none 0 0, .slice (some ⟨w.heap.size, 0, none⟩) 2 2, .string ⟨#[48]⟩, .slice none 0 0, .slice none 0 0, .int .i64 0, .string ⟨#[]⟩, .string ⟨#[]⟩]] (w.alloc (.cells #[.string ⟨#[50]⟩, .int .i64 1, .string ⟨#[45, 51]⟩, .int .i64 (-2)] 82)) fun e w' => e = .returned (.tuple #[.string ⟨#[114, 117, 112, 32, 50, 32, 120, 49, 32, 45, 51, 32, 126, 120, 50, 32, 62, 61, 32, 48, 32, 59]⟩, .int .i64 0]) ∧ Below w.heap.size w w' := by
  have hb : Below w.heap.size w (w.alloc (.cells #[.string ⟨#[50]⟩, .int .i64 1, .string ⟨#[45, 51]⟩, .int .i64 (-2)] 82)) := (Below.refl _ _).alloc (Nat.le_refl _) _
  refine (print_eq kd4 knTab (.slice none 0 0) (.slice (some ⟨w.heap.size, 0, none⟩) 2 2) (.slice none 0 0) (.slice none 0 0) _ ⟨kn_nil _ _, kn_pcs w, kn_nil _ _, kn_nil _ _⟩ ⟨?_, ?_, ?_⟩ (by rw [kn_tot]; decide) kt4 kn_line (by decide) kp4 (hg.next hb) (Nat.le_trans hB hb.size)).mono fun e w' hq => ⟨hq.1, bl_next hb hq.2⟩
  · intro x hx
    simp only [kd4, List.mem_cons, List.not_mem_nil, or_false] at hx
    rcases hx with rfl | rfl <;> decide
  · intro x hx
    exact absurd hx (List.not_mem_nil)
  · intro x hx
    exact absurd hx (List.not_mem_nil)
end Go.Proofs.YtibbnijicdijnaaGreatDoor

namespace Go.Proofs.YtibbnijicdijnaaGreatDoor
open Go.RowKit

/-- Conclusions, by their writers. -/
def wrC (f : FuncId) (d : SL) : List (List UInt8) := if f = 154 then leanT d.ids else if f = 156 then (d.low :: leanT d.ids) ++ [d.high] else if f = 158 then d.high :: leanT d.ids else []
theorem tabC (k : Int) : TabW claimsL wrC k where
  leaf := by
    intro f hf _
    simp only [claimsL, List.mem_cons, List.not_mem_nil, or_false] at hf
    rcases hf with rfl | rfl | rfl | rfl | rfl
    · exact wrt_nothing
    · exact wrt_unsat
    · exact wrt_nothing
    · exact wrt_bounds
    · exact wrt_all
  few := by decide
  ent := by
    intro f hf
    simp only [claimsL, List.mem_cons, List.not_mem_nil, or_false] at hf
    rcases hf with rfl | rfl | rfl | rfl | rfl
    · exact Go.Proofs.enters_of Tryz.func82 (by kernel_rfl) rfl
    · exact Go.Proofs.enters_of Tryz.func154 (by kernel_rfl) rfl
    · exact Go.Proofs.enters_of Tryz.func82 (by kernel_rfl) rfl
    · exact Go.Proofs.enters_of Tryz.func156 (by kernel_rfl) rfl
    · exact Go.Proofs.enters_of Tryz.func158 (by kernel_rfl) rfl

set_option maxRecDepth 10000 in
set_option maxHeartbeats 2000000 in
theorem wrt_ends : Wrt 97 fun d => kindT claimsL wrC d.ends d := by
  intro B b l d vo vp vl vi w h hs hi hl hBw hg hB
  obtain ⟨V, hV⟩ : ∃ V, w.alloc (.cells (slC d vo vp vl vi) 45) = V := ⟨_, rfl⟩
  have hbV : Below w.heap.size w V := by rw [← hV]; exact (Below.refl _ _).alloc (Nat.le_refl _) _
  have kV : Kq B w V.drew := Kq.of_below hbV.drew hBw
  have hBV : B ≤ V.drew.heap.size := Nat.le_trans hBw kV.low.size
  have hP : PageAt B b l V.drew := page_below h hbV.drew
  have HBx : Hid (∀ w', Kq B V.drew w' → w'.cell? ⟨w.heap.size, 0, none⟩ = some (.int .i64 d.k) ∧ w'.cell? ⟨w.heap.size, 1, none⟩ = some (.string (txtOf d.n)) ∧ w'.cell? ⟨w.heap.size, 2, none⟩ = some (vo) ∧ w'.cell? ⟨w.heap.size, 3, none⟩ = some (vp) ∧ w'.cell? ⟨w.heap.size, 4, none⟩ = some (.string (txtOf d.deg)) ∧ w'.cell? ⟨w.heap.size, 5, none⟩ = some (vl) ∧ w'.cell? ⟨w.heap.size, 6, none⟩ = some (vi) ∧ w'.cell? ⟨w.heap.size, 7, none⟩ = some (.int .i64 d.ends) ∧ w'.cell? ⟨w.heap.size, 8, none⟩ = some (.string (txtOf d.low)) ∧ w'.cell? ⟨w.heap.size, 9, none⟩ = some (.string (txtOf d.high))) := fun w' k => by
    have gB := k.other _ _ _ _ (show V.drew.heap[w.heap.size]? = some (.cells (slC d vo vp vl vi) 45 (0, 0)) by show V.heap[w.heap.size]? = _; rw [← hV]; exact heap_alloc_new w _) (by decide) (by decide)
    exact ⟨cell_of gB 0, cell_of gB 1, cell_of gB 2, cell_of gB 3, cell_of gB 4, cell_of gB 5, cell_of gB 6, cell_of gB 7, cell_of gB 8, cell_of gB 9⟩
  have HF : Hid (Calls Tryz.prog 130 #[] V.drew fun e w' => e = .returned (.slice (some ⟨V.drew.heap.size, 0, none⟩) 5 5) ∧ w'.heap[V.drew.heap.size]? = some (.cells (fmsC claimsL).toArray 154 (0, 0)) ∧ Below V.drew.heap.size V.drew w') := (claims_any V.drew).mono fun e w' hq => ⟨hq.1, by rw [hq.2]; exact heap_alloc_new V.drew _, by rw [hq.2]; exact (Below.refl _ _).alloc (Nat.le_refl _) _⟩
  have HPk : Hid (∀ w', w'.heap[V.drew.heap.size]? = some (.cells (fmsC claimsL).toArray 154 (0, 0)) → Below V.drew.heap.size V.drew w' → Calls Tryz.prog 60 #[.pointer (some ⟨b, 0, none⟩), .slice (some ⟨V.drew.heap.size, 0, none⟩) 5 5, .int .i64 d.ends, .agg (slC d vo vp vl vi)] w' (WrO B b (wordsP (kindT claimsL wrC d.ends d) l) w')) := fun w' hg1 hb1 => by
    have k1 := kV.trans (Kq.of_below hb1 hBV)
    exact ppick_any d.ends (tabC d.ends) d vo vp vl vi w' (page_below hP hb1) hg1 (hs.next k1) hi hl (Nat.le_trans hBw k1.low.size) (hg.kq k1 hB) hB
  have HKV : Hid (Kq B w V.drew) := kV
  obtain ⟨Z, hZ⟩ : ∃ Z, wordsP (kindT claimsL wrC d.ends d) l = Z := ⟨_, rfl⟩
  rw [hZ] at HPk
  unfold WrO
  show Calls _ _ _ _ fun e w' => e = _ ∧ PageAt B b (wordsP (kindT claimsL wrC d.ends d) l) w' ∧ Kq B w w'
  rw [hZ]
  unfold slC at hV HPk
  unfold slC
  obtain ⟨ao, co, rfl, _, _⟩ := hs.o
  obtain ⟨ap, cp, rfl, _, _⟩ := hs.p
  obtain ⟨al, cl, rfl, _, _⟩ := hs.l
  obtain ⟨ai, ci, rfl, _, _⟩ := hs.i
  clear hs hi hl hg h hbV kV hP hZ
  go_enter Tryz.func97, Tryz.ntmps97
  go_wp2_with fail
  refine wp_region_T (fun w' => w'.cell? ⟨w.heap.size, 0, none⟩ = some (.int .i64 d.k) ∧ w'.cell? ⟨w.heap.size, 1, none⟩ = some (.string (txtOf d.n)) ∧ w'.cell? ⟨w.heap.size, 2, none⟩ = some (.slice ao d.ops.length co) ∧ w'.cell? ⟨w.heap.size, 3, none⟩ = some (.slice ap d.pcs.length cp) ∧ w'.cell? ⟨w.heap.size, 4, none⟩ = some (.string (txtOf d.deg)) ∧ w'.cell? ⟨w.heap.size, 5, none⟩ = some (.slice al d.lits.length cl) ∧ w'.cell? ⟨w.heap.size, 6, none⟩ = some (.slice ai d.ids.length ci) ∧ w'.cell? ⟨w.heap.size, 7, none⟩ = some (.int .i64 d.ends) ∧ w'.cell? ⟨w.heap.size, 8, none⟩ = some (.string (txtOf d.low)) ∧ w'.cell? ⟨w.heap.size, 9, none⟩ = some (.string (txtOf d.high))) (fun _ => True) [] (by kernel_rfl) ⟨HBx.out _ (Kq.refl _ _), trivial⟩ (fun hHeld => ?_)
  clear hV
  generalize V.drew = U at hHeld HBx HF HPk HKV hBV ⊢
  refine wpAnyT_takeB (i := 0) (oi := ⟨some 4, .move (.tmp 0), _, _, _, _⟩) (v := ?v0) rfl (by kernel_rfl) (by kernel_rfl) (by kernel_rfl) (by kernel_rfl) (fun _ _ _ h => h) (Or.inl ⟨by rfl, ?hy0⟩) (by assumption) ?rest0
  case hy0 => (intro w hSw; (try dsimp only at hSw); obtain ⟨s0, s1, s2, s3, s4, s5, s6, s7, s8, s9⟩ := hSw; go_simp; try (with_reducible rfl))
  try simp only [Act.put, List.setIfInBounds_toArray, List.set_cons_zero, List.set_cons_succ]
  refine wpAnyT_takeB (i := 2) (oi := ⟨some 6, .fieldAddr 45 (.tmp 3) 6, _, _, _, _⟩) (v := ?v2) rfl (by kernel_rfl) (by kernel_rfl) (by kernel_rfl) (by kernel_rfl) (fun _ _ _ h => h) (Or.inl ⟨by rfl, ?hy2⟩) (by assumption) ?rest2
  case hy2 => (intro w hSw; (try dsimp only at hSw); obtain ⟨s0, s1, s2, s3, s4, s5, s6, s7, s8, s9⟩ := hSw; go_simp; try (with_reducible rfl))
  try simp only [Act.put, List.setIfInBounds_toArray, List.set_cons_zero, List.set_cons_succ]
  refine wpAnyT_takeB (i := 3) (oi := ⟨some 7, .load 3 (.tmp 6), _, _, _, _⟩) (v := ?v3) rfl (by kernel_rfl) (by kernel_rfl) (by kernel_rfl) (by kernel_rfl) (fun _ _ _ h => h) (Or.inl ⟨by rfl, ?hy3⟩) (by assumption) ?rest3
  case hy3 => (intro w hSw; (try dsimp only at hSw); obtain ⟨s0, s1, s2, s3, s4, s5, s6, s7, s8, s9⟩ := hSw; go_simp; try (with_reducible rfl))
  try simp only [Act.put, List.setIfInBounds_toArray, List.set_cons_zero, List.set_cons_succ]
  refine wpAnyT_takeB (i := 4) (oi := ⟨some 8, .load 45 (.tmp 3), _, _, _, _⟩) (v := ?v4) rfl (by kernel_rfl) (by kernel_rfl) (by kernel_rfl) (by kernel_rfl) (fun _ _ _ h => h) (Or.inl ⟨by rfl, ?hy4⟩) (by assumption) ?rest4
  case hy4 => (intro w hSw; (try dsimp only at hSw); obtain ⟨s0, s1, s2, s3, s4, s5, s6, s7, s8, s9⟩ := hSw; go_simp; try (with_reducible rfl))
  try simp only [Act.put, List.setIfInBounds_toArray, List.set_cons_zero, List.set_cons_succ]
  clear hHeld
  refine wpAnyT_one (i := 1) (o := ⟨some 5, .call { callee := .value (.func 130), args := #[], argTypes := #[] }, _, _, _, _⟩) (by kernel_rfl) rfl (fun K hK => ?_)
  go_simp
  refine calls_at HF.out (by with_reducible rfl) (by with_reducible rfl) ?_
  rintro e w1 ⟨rfl, hg1, hb1⟩
  have H1 : Hid (w1.heap[U.heap.size]? = some (.cells (fmsC claimsL).toArray 154 (0, 0)) ∧ Below U.heap.size U w1) := ⟨hg1, hb1⟩
  clear hg1 hb1
  go_wp2_with fail
  refine hK.out _ _ ⟨HBx.out _ (Kq.of_below H1.out.2 hBV), fun _ => trivial⟩ ?_
  clear hK K
  try simp only [Act.put, List.setIfInBounds_toArray, List.set_cons_zero, List.set_cons_succ]
  refine wpAnyT_one (i := 5) (o := ⟨some 9, .call { callee := .value (.func 60), args := #[(.tmp 4), (.tmp 5), (.tmp 7), (.tmp 8)], argTypes := #[123, 127, 3, 45] }, _, _, _, _⟩) (by kernel_rfl) rfl (fun K hK => ?_)
  go_simp
  refine calls_at (HPk.out w1 H1.out.1 H1.out.2) (by with_reducible rfl) (by with_reducible rfl) ?_
  rintro e w2 ⟨rfl, hp2, hk2⟩
  have H2 : Hid (PageAt B b Z w2 ∧ Kq B U w2) := ⟨hp2, (Kq.of_below H1.out.2 hBV).trans hk2⟩
  clear hp2 hk2
  go_wp2_with fail
  refine hK.out _ _ ⟨HBx.out _ H2.out.2, fun _ => trivial⟩ ?_
  clear hK K
  try simp only [Act.put, List.setIfInBounds_toArray, List.set_cons_zero, List.set_cons_succ]
  refine wpAnyT_done (by kernel_rfl) ?_ _
  go_wp2_with fail
  go_end0
  exact ⟨rfl, H2.out.1, HKV.out.trans H2.out.2⟩
end Go.Proofs.YtibbnijicdijnaaGreatDoor
