/-
  The document's Same, of steps that say the same.
-/
import Derived.Test.YtibbnijicdijnaaGreatDoorJ30
import Derived.Test.YtibbnijicdijnaaGreatDoorPfEq
namespace Go.Proofs.YtibbnijicdijnaaGreatDoor
open Go.RowKit

/-- A row of values, as it is read. -/
def RdAt (w : World) (v : Value) (n : Nat) (xs : List Value) : Prop := ∃ a cap, v = .slice a n cap ∧ n ≤ 9223372036854775807 ∧ (0 < n → ∃ g off, a = some ⟨g, off, none⟩ ∧ g < w.heap.size ∧ ∀ j u, xs[j]? = some u → w.cell? ⟨g, off + j, none⟩ = some u)
theorem RdAt.below {w w' : World} {v : Value} {n : Nat} {xs : List Value} (h : RdAt w v n xs) (hb : Below w.heap.size w w') : RdAt w' v n xs := by
  obtain ⟨a, cap, h1, h2, h3⟩ := h
  refine ⟨a, cap, h1, h2, fun h0 => ?_⟩
  obtain ⟨g, off, e1, e2, e3⟩ := h3 h0
  exact ⟨g, off, e1, Nat.lt_of_lt_of_le e2 hb.size, fun j u hu => (hb.cell (p := ⟨g, off + j, none⟩) e2).trans (e3 j u hu)⟩
/-- A step's lists, as they are read. -/
structure SlR (w : World) (d : SL) (vo vp vl vi : Value) : Prop where
  o : RdAt w vo d.ops.length (opsC d.ops)
  p : RdAt w vp d.pcs.length (pcsC d.pcs)
  l : RdAt w vl d.lits.length (d.lits.map (.int .i64))
  i : RdAt w vi d.ids.length (d.ids.map fun x => .string (txtOf x))
theorem SlR.below {w w' : World} {d : SL} {vo vp vl vi : Value} (h : SlR w d vo vp vl vi) (hb : Below w.heap.size w w') : SlR w' d vo vp vl vi := ⟨h.o.below hb, h.p.below hb, h.l.below hb, h.i.below hb⟩

set_option maxRecDepth 10000 in
set_option maxHeartbeats 1000000 in
theorem sameTexts_eq (L : List (List UInt8)) (v v' : Value) (w : World) (h : RdAt w v L.length (L.map fun x => .string (txtOf x))) (h' : RdAt w v' L.length (L.map fun x => .string (txtOf x))) : Calls Tryz.prog 46 #[v, v'] w fun e w' => e = .returned (.bool true) ∧ Below w.heap.size w w' := by
  obtain ⟨a, cap, rfl, hn, hc⟩ := h
  obtain ⟨a', cap', rfl, _, hc'⟩ := h'
  have HC : Hid (∀ w', Below w.heap.size w w' → ∀ j (hj : j < L.length), ∃ g off, a = some ⟨g, off, none⟩ ∧ w'.cell? ⟨g, off + j, none⟩ = some (.string (txtOf L[j]))) := fun w' hb j hj => by
    obtain ⟨g, off, e1, e2, e3⟩ := hc (by omega)
    exact ⟨g, off, e1, (hb.cell (p := ⟨g, off + j, none⟩) e2).trans (e3 j _ (by simp [hj]))⟩
  have HC' : Hid (∀ w', Below w.heap.size w w' → ∀ j (hj : j < L.length), ∃ g off, a' = some ⟨g, off, none⟩ ∧ w'.cell? ⟨g, off + j, none⟩ = some (.string (txtOf L[j]))) := fun w' hb j hj => by
    obtain ⟨g, off, e1, e2, e3⟩ := hc' (by omega)
    exact ⟨g, off, e1, (hb.cell (p := ⟨g, off + j, none⟩) e2).trans (e3 j _ (by simp [hj]))⟩
  clear hc hc'
  go_enter Tryz.func46, Tryz.ntmps46
  go_wp2_with fail
  go_loopw [5] (fun iv wr => ∃ k : Nat, iv = .int .i64 (k : Int) ∧ k ≤ L.length ∧ Hid (Below w.heap.size w wr)) (fun iv _ => L.length - (intOf iv).toNat)
  case atStart => exact ⟨0, rfl, Nat.zero_le _, Below.refl _ _⟩
  case round =>
    obtain ⟨k, rfl, hk, HBr⟩ := hrel
    by_cases hkn : k < L.length
    · have hkI : (k : Int) < (L.length : Int) := by omega
      obtain ⟨g, off, rfl, x0⟩ := HC.out wr HBr.out k hkn
      obtain ⟨g', off', rfl, y0⟩ := HC'.out wr HBr.out k hkn
      have hq := txt_beq L[k] L[k]
      rw [decide_eq_true rfl] at hq
      obtain ⟨T, hT⟩ : ∃ T, txtOf L[k] = T := ⟨_, rfl⟩
      rw [hT] at x0 y0 hq
      clear hT
      go_wp2_with fail
      go_region
      have HBd : Hid (Below w.heap.size w wr.drew) := HBr.out.drew
      go_wp2_with fail
      go_roundw
      case rel => exact ⟨k + 1, by go_num, hkn, HBd⟩
      case measure => simp [intOf]; omega
    · have hkI : ¬ (k : Int) < (L.length : Int) := by omega
      go_wp2_with fail
      go_ret
      exact ⟨rfl, HBr.out⟩
theorem pcs_get (L : List PcL) (j : Nat) (hj : j < L.length) : (pcsC L)[j * 2]? = some (.string (txtOf L[j].1)) ∧ (pcsC L)[j * 2 + 1]? = some (.int .i64 L[j].2) := by
  induction L generalizing j with
  | nil => exact absurd hj (Nat.not_lt_zero _)
  | cons o L ih =>
    have e : pcsC (o :: L) = pcC o ++ pcsC L := by simp [pcsC]
    cases j with
    | zero => exact ⟨rfl, rfl⟩
    | succ j =>
      obtain ⟨h1, h2⟩ := ih j (by simpa using hj)
      have k : ∀ i, (pcsC (o :: L))[(j + 1) * 2 + i]? = (pcsC L)[j * 2 + i]? := fun i => by
        rw [e, List.getElem?_append_right (by simp [pcC]; omega)]
        congr 1
        simp [pcC]
        omega
      have k0 := k 0
      simp only [Nat.add_zero] at k0
      exact ⟨k0.trans h1, (k 1).trans h2⟩
theorem ops_get (L : List OpL) (j : Nat) (hj : j < L.length) : (opsC L)[j * 3]? = some (.int .i64 L[j].1) ∧ (opsC L)[j * 3 + 1]? = some (.string (txtOf L[j].2.1)) ∧ (opsC L)[j * 3 + 2]? = some (.int .i64 L[j].2.2) := by
  induction L generalizing j with
  | nil => exact absurd hj (Nat.not_lt_zero _)
  | cons o L ih =>
    have e : opsC (o :: L) = opC o ++ opsC L := by simp [opsC]
    cases j with
    | zero => exact ⟨rfl, rfl, rfl⟩
    | succ j =>
      obtain ⟨h1, h2, h3⟩ := ih j (by simpa using hj)
      have k : ∀ i, (opsC (o :: L))[(j + 1) * 3 + i]? = (opsC L)[j * 3 + i]? := fun i => by
        rw [e, List.getElem?_append_right (by simp [opC]; omega)]
        congr 1
        simp [opC]
        omega
      have k0 := k 0
      simp only [Nat.add_zero] at k0
      exact ⟨k0.trans h1, (k 1).trans h2, (k 2).trans h3⟩

set_option maxRecDepth 10000 in
set_option maxHeartbeats 1000000 in
theorem sameRow_eq (L : List PcL) (deg : List UInt8) (v v' : Value) (w : World) (h : RdAt w v L.length (pcsC L)) (h' : RdAt w v' L.length (pcsC L)) : Calls Tryz.prog 47 #[.agg #[v, .string (txtOf deg)], .agg #[v', .string (txtOf deg)]] w fun e w' => e = .returned (.bool true) ∧ Below w.heap.size w w' := by
  obtain ⟨a, cap, rfl, hn, hc⟩ := h
  obtain ⟨a', cap', rfl, _, hc'⟩ := h'
  have HC : Hid (∀ w', Below w.heap.size w w' → ∀ j (hj : j < L.length), ∃ g off, a = some ⟨g, off, none⟩ ∧ w'.cell? ⟨g, off + j * 2, none⟩ = some (.string (txtOf L[j].1)) ∧ w'.cell? ⟨g, off + j * 2 + 1, none⟩ = some (.int .i64 L[j].2)) := fun w' hb j hj => by
    obtain ⟨g, off, e1, e2, e3⟩ := hc (by omega)
    obtain ⟨p1, p2⟩ := pcs_get L j hj
    exact ⟨g, off, e1, (hb.cell (p := ⟨g, off + j * 2, none⟩) e2).trans (e3 _ _ p1), (hb.cell (p := ⟨g, off + j * 2 + 1, none⟩) e2).trans (e3 _ _ p2)⟩
  have HC' : Hid (∀ w', Below w.heap.size w w' → ∀ j (hj : j < L.length), ∃ g off, a' = some ⟨g, off, none⟩ ∧ w'.cell? ⟨g, off + j * 2, none⟩ = some (.string (txtOf L[j].1)) ∧ w'.cell? ⟨g, off + j * 2 + 1, none⟩ = some (.int .i64 L[j].2)) := fun w' hb j hj => by
    obtain ⟨g, off, e1, e2, e3⟩ := hc' (by omega)
    obtain ⟨p1, p2⟩ := pcs_get L j hj
    exact ⟨g, off, e1, (hb.cell (p := ⟨g, off + j * 2, none⟩) e2).trans (e3 _ _ p1), (hb.cell (p := ⟨g, off + j * 2 + 1, none⟩) e2).trans (e3 _ _ p2)⟩
  have hqd := txt_beq deg deg
  rw [decide_eq_true rfl] at hqd
  obtain ⟨D, hD⟩ : ∃ D, txtOf deg = D := ⟨_, rfl⟩
  rw [hD] at hqd
  rw [hD]
  obtain ⟨W, hW⟩ : ∃ W, (w.alloc (.cells #[.slice a L.length cap, .string D] 41)).alloc (.cells #[.slice a' L.length cap', .string D] 41) = W := ⟨_, rfl⟩
  have hb0 : Below w.heap.size w W := by rw [← hW]; exact ((Below.refl _ _).alloc (Nat.le_refl _) _).alloc (by simp) _
  have g0 : W.heap[w.heap.size]? = some (.cells #[.slice a L.length cap, .string D] 41 (0, 0)) := by rw [← hW, heap_alloc_old (w.alloc _) _ (by simp)]; exact heap_alloc_new w _
  have g1 : W.heap[w.heap.size + 1]? = some (.cells #[.slice a' L.length cap', .string D] 41 (0, 0)) := by rw [← hW]; exact heap_alloc2_new w _ _
  have hl0 := (Array.getElem?_eq_some_iff.1 g0).1
  have hl1 := (Array.getElem?_eq_some_iff.1 g1).1
  have HB : Hid (Below w.heap.size w W) := hb0
  have HM : Hid (∀ w', Below W.heap.size W w' → w'.cell? ⟨w.heap.size, 0, none⟩ = some (.slice a L.length cap) ∧ w'.cell? ⟨w.heap.size + 1, 0, none⟩ = some (.slice a' L.length cap') ∧ w'.cell? ⟨w.heap.size, 1, none⟩ = some (.string D) ∧ w'.cell? ⟨w.heap.size + 1, 1, none⟩ = some (.string D)) := fun w' hb => by
    have f0 := (hb.block _ hl0).trans g0
    have f1 := (hb.block _ hl1).trans g1
    exact ⟨cell_of f0 0, cell_of f1 0, cell_of f0 1, cell_of f1 1⟩
  obtain ⟨m0, m1, m2, m3⟩ := HM.out W (Below.refl _ _)
  clear hc hc' hD hb0 g0 g1 hl0 hl1
  go_enter Tryz.func47, Tryz.ntmps47
  go_wp2_with fail
  go_loopw [5] (fun iv wr => ∃ k : Nat, iv = .int .i64 (k : Int) ∧ k ≤ L.length ∧ Hid (Below W.heap.size W wr)) (fun iv _ => L.length - (intOf iv).toNat)
  case atStart => exact ⟨0, rfl, Nat.zero_le _, Below.refl _ _⟩
  case round =>
    obtain ⟨k, rfl, hk, HBr⟩ := hrel
    obtain ⟨n0, n1, _, _⟩ := HM.out wr HBr.out
    by_cases hkn : k < L.length
    · have hkI : (k : Int) < (L.length : Int) := by omega
      obtain ⟨g, off, rfl, x0, x1⟩ := HC.out wr (HB.out.trans (HBr.out.mono HB.out.size)) k hkn
      obtain ⟨g', off', rfl, y0, y1⟩ := HC'.out wr (HB.out.trans (HBr.out.mono HB.out.size)) k hkn
      obtain ⟨T, hT⟩ : ∃ T, txtOf L[k].1 = T := ⟨_, rfl⟩
      obtain ⟨n, hn2⟩ : ∃ n, L[k].2 = n := ⟨_, rfl⟩
      rw [hT] at x0 y0
      rw [hn2] at x1 y1
      have hne : ∀ W, (binOp .neq 82 (.agg #[.string T, .int .i64 n]) (.agg #[.string T, .int .i64 n])).run Tryz.prog W = .ok (.bool false) W := fun W => by rw [pc_neq]; simp
      clear hT hn2
      go_wp2_with fail
      go_region
      have HBd : Hid (Below W.heap.size W wr.drew) := HBr.out.drew
      go_wp2_with fail
      go_roundw
      case rel => exact ⟨k + 1, by go_num, hkn, HBd⟩
      case measure => simp [intOf]; omega
    · have hkI : ¬ (k : Int) < (L.length : Int) := by omega
      go_wp2_with fail
      go_ret
      exact ⟨rfl, HB.out.trans (HBr.out.mono HB.out.size)⟩
set_option maxRecDepth 10000 in
set_option maxHeartbeats 2000000 in
theorem same_eq (d : SL) (vo vp vl vi vo2 vp2 vl2 vi2 : Value) (w : World) (h : SlR w d vo vp vl vi) (h' : SlR w d vo2 vp2 vl2 vi2) : Calls Tryz.prog 19 #[.agg (slC d vo vp vl vi), .agg (slC d vo2 vp2 vl2 vi2)] w fun e w' => e = .returned (.bool true) ∧ Below w.heap.size w w' := by
  have hn1 := txt_beq d.n d.n
  have hn2 := txt_beq d.low d.low
  have hn3 := txt_beq d.high d.high
  rw [decide_eq_true rfl] at hn1 hn2 hn3
  obtain ⟨oa, oc, rfl, ho, hco⟩ := id h.o
  obtain ⟨oa2, oc2, rfl, _, hco2⟩ := id h'.o
  obtain ⟨pa, pc, rfl, hp, _⟩ := id h.p
  obtain ⟨pa2, pc2, rfl, _, _⟩ := id h'.p
  obtain ⟨la, lc, rfl, hl, hcl⟩ := id h.l
  obtain ⟨la2, lc2, rfl, _, hcl2⟩ := id h'.l
  obtain ⟨ia, ic, rfl, hi, _⟩ := id h.i
  obtain ⟨ia2, ic2, rfl, _, _⟩ := id h'.i
  unfold slC
  have HTx : Hid (∀ w', Below w.heap.size w w' → Calls Tryz.prog 46 #[.slice ia d.ids.length ic, .slice ia2 d.ids.length ic2] w' fun e w2 => e = .returned (.bool true) ∧ Below w'.heap.size w' w2) := fun w' hb => sameTexts_eq d.ids _ _ w' (h.below hb).i (h'.below hb).i
  have HRw : Hid (∀ w', Below w.heap.size w w' → Calls Tryz.prog 47 #[.agg #[.slice pa d.pcs.length pc, .string (txtOf d.deg)], .agg #[.slice pa2 d.pcs.length pc2, .string (txtOf d.deg)]] w' fun e w2 => e = .returned (.bool true) ∧ Below w'.heap.size w' w2) := fun w' hb => sameRow_eq d.pcs d.deg _ _ w' (h.below hb).p (h'.below hb).p
  have HCo : Hid (∀ w', Below w.heap.size w w' → ∀ j (hj : j < d.ops.length), (∃ g off, oa = some ⟨g, off, none⟩ ∧ w'.cell? ⟨g, off + j * 3, none⟩ = some (.int .i64 d.ops[j].1) ∧ w'.cell? ⟨g, off + j * 3 + 1, none⟩ = some (.string (txtOf d.ops[j].2.1)) ∧ w'.cell? ⟨g, off + j * 3 + 2, none⟩ = some (.int .i64 d.ops[j].2.2)) ∧ ∃ g off, oa2 = some ⟨g, off, none⟩ ∧ w'.cell? ⟨g, off + j * 3, none⟩ = some (.int .i64 d.ops[j].1) ∧ w'.cell? ⟨g, off + j * 3 + 1, none⟩ = some (.string (txtOf d.ops[j].2.1)) ∧ w'.cell? ⟨g, off + j * 3 + 2, none⟩ = some (.int .i64 d.ops[j].2.2)) := fun w' hb j hj => by
    obtain ⟨p1, p2, p3⟩ := ops_get d.ops j hj
    obtain ⟨g, off, e1, e2, e3⟩ := hco (by omega)
    obtain ⟨g', off', e1', e2', e3'⟩ := hco2 (by omega)
    exact ⟨⟨g, off, e1, (hb.cell (p := ⟨g, off + j * 3, none⟩) e2).trans (e3 _ _ p1), (hb.cell (p := ⟨g, off + j * 3 + 1, none⟩) e2).trans (e3 _ _ p2), (hb.cell (p := ⟨g, off + j * 3 + 2, none⟩) e2).trans (e3 _ _ p3)⟩, g', off', e1', (hb.cell (p := ⟨g', off' + j * 3, none⟩) e2').trans (e3' _ _ p1), (hb.cell (p := ⟨g', off' + j * 3 + 1, none⟩) e2').trans (e3' _ _ p2), (hb.cell (p := ⟨g', off' + j * 3 + 2, none⟩) e2').trans (e3' _ _ p3)⟩
  have HCl : Hid (∀ w', Below w.heap.size w w' → ∀ j (hj : j < d.lits.length), (∃ g off, la = some ⟨g, off, none⟩ ∧ w'.cell? ⟨g, off + j, none⟩ = some (.int .i64 d.lits[j])) ∧ ∃ g off, la2 = some ⟨g, off, none⟩ ∧ w'.cell? ⟨g, off + j, none⟩ = some (.int .i64 d.lits[j])) := fun w' hb j hj => by
    obtain ⟨g, off, e1, e2, e3⟩ := hcl (by omega)
    obtain ⟨g', off', e1', e2', e3'⟩ := hcl2 (by omega)
    exact ⟨⟨g, off, e1, (hb.cell (p := ⟨g, off + j, none⟩) e2).trans (e3 j _ (by simp [hj]))⟩, g', off', e1', (hb.cell (p := ⟨g', off' + j, none⟩) e2').trans (e3' j _ (by simp [hj]))⟩
  obtain ⟨N, hN⟩ : ∃ N, txtOf d.n = N := ⟨_, rfl⟩
  obtain ⟨D, hD⟩ : ∃ D, txtOf d.deg = D := ⟨_, rfl⟩
  obtain ⟨Lo, hLo⟩ : ∃ D, txtOf d.low = D := ⟨_, rfl⟩
  obtain ⟨Hi, hHi⟩ : ∃ D, txtOf d.high = D := ⟨_, rfl⟩
  rw [hN] at hn1
  rw [hLo] at hn2
  rw [hHi] at hn3
  rw [hD] at HRw
  rw [hN, hD, hLo, hHi]
  obtain ⟨W, hW⟩ : ∃ W, (w.alloc (.cells #[.int .i64 d.k, .string N, .slice oa d.ops.length oc, .slice pa d.pcs.length pc, .string D, .slice la d.lits.length lc, .slice ia d.ids.length ic, .int .i64 d.ends, .string Lo, .string Hi] 45)).alloc (.cells #[.int .i64 d.k, .string N, .slice oa2 d.ops.length oc2, .slice pa2 d.pcs.length pc2, .string D, .slice la2 d.lits.length lc2, .slice ia2 d.ids.length ic2, .int .i64 d.ends, .string Lo, .string Hi] 45) = W := ⟨_, rfl⟩
  have hb0 : Below w.heap.size w W := by rw [← hW]; exact ((Below.refl _ _).alloc (Nat.le_refl _) _).alloc (by simp) _
  have g0 : W.heap[w.heap.size]? = some (.cells #[.int .i64 d.k, .string N, .slice oa d.ops.length oc, .slice pa d.pcs.length pc, .string D, .slice la d.lits.length lc, .slice ia d.ids.length ic, .int .i64 d.ends, .string Lo, .string Hi] 45 (0, 0)) := by rw [← hW, heap_alloc_old (w.alloc _) _ (by simp)]; exact heap_alloc_new w _
  have g1 : W.heap[w.heap.size + 1]? = some (.cells #[.int .i64 d.k, .string N, .slice oa2 d.ops.length oc2, .slice pa2 d.pcs.length pc2, .string D, .slice la2 d.lits.length lc2, .slice ia2 d.ids.length ic2, .int .i64 d.ends, .string Lo, .string Hi] 45 (0, 0)) := by rw [← hW]; exact heap_alloc2_new w _ _
  have hl0 := (Array.getElem?_eq_some_iff.1 g0).1
  have hl1 := (Array.getElem?_eq_some_iff.1 g1).1
  have HB : Hid (Below w.heap.size w W) := hb0
  have HM : Hid (∀ w', Below W.heap.size W w' → (w'.cell? ⟨w.heap.size, 0, none⟩ = some (.int .i64 d.k) ∧ w'.cell? ⟨w.heap.size, 1, none⟩ = some (.string N) ∧ w'.cell? ⟨w.heap.size, 2, none⟩ = some (.slice oa d.ops.length oc) ∧ w'.cell? ⟨w.heap.size, 3, none⟩ = some (.slice pa d.pcs.length pc) ∧ w'.cell? ⟨w.heap.size, 4, none⟩ = some (.string D) ∧ w'.cell? ⟨w.heap.size, 5, none⟩ = some (.slice la d.lits.length lc) ∧ w'.cell? ⟨w.heap.size, 6, none⟩ = some (.slice ia d.ids.length ic) ∧ w'.cell? ⟨w.heap.size, 7, none⟩ = some (.int .i64 d.ends) ∧ w'.cell? ⟨w.heap.size, 8, none⟩ = some (.string Lo) ∧ w'.cell? ⟨w.heap.size, 9, none⟩ = some (.string Hi)) ∧ (w'.cell? ⟨w.heap.size + 1, 0, none⟩ = some (.int .i64 d.k) ∧ w'.cell? ⟨w.heap.size + 1, 1, none⟩ = some (.string N) ∧ w'.cell? ⟨w.heap.size + 1, 2, none⟩ = some (.slice oa2 d.ops.length oc2) ∧ w'.cell? ⟨w.heap.size + 1, 3, none⟩ = some (.slice pa2 d.pcs.length pc2) ∧ w'.cell? ⟨w.heap.size + 1, 4, none⟩ = some (.string D) ∧ w'.cell? ⟨w.heap.size + 1, 5, none⟩ = some (.slice la2 d.lits.length lc2) ∧ w'.cell? ⟨w.heap.size + 1, 6, none⟩ = some (.slice ia2 d.ids.length ic2) ∧ w'.cell? ⟨w.heap.size + 1, 7, none⟩ = some (.int .i64 d.ends) ∧ w'.cell? ⟨w.heap.size + 1, 8, none⟩ = some (.string Lo) ∧ w'.cell? ⟨w.heap.size + 1, 9, none⟩ = some (.string Hi))) := fun w' hb => by
    have f0 := (hb.block _ hl0).trans g0
    have f1 := (hb.block _ hl1).trans g1
    exact ⟨⟨cell_of f0 0, cell_of f0 1, cell_of f0 2, cell_of f0 3, cell_of f0 4, cell_of f0 5, cell_of f0 6, cell_of f0 7, cell_of f0 8, cell_of f0 9⟩, cell_of f1 0, cell_of f1 1, cell_of f1 2, cell_of f1 3, cell_of f1 4, cell_of f1 5, cell_of f1 6, cell_of f1 7, cell_of f1 8, cell_of f1 9⟩
  obtain ⟨⟨m0, m1, m2, m3, m4, m5, m6, m7, m8, m9⟩, n0, n1, n2, n3, n4, n5, n6, n7, n8, n9⟩ := HM.out W (Below.refl _ _)
  clear hb0 g0 g1 hl0 hl1 h h' hco hco2 hcl hcl2 hN hD hLo hHi
  go_enter Tryz.func19, Tryz.ntmps19
  go_wp2_with fail
  refine calls_at (HTx.out W HB.out) (by with_reducible rfl) (by with_reducible rfl) ?_
  rintro e w1 ⟨rfl, hb1⟩
  have HB1 : Hid (Below W.heap.size W w1) := hb1
  clear hb1 m0 m1 m2 m3 m4 m5 m6 m7 m8 m9 n0 n1 n2 n3 n4 n5 n6 n7 n8 n9
  obtain ⟨⟨_, _, _, m3, m4, _, _, _, _, _⟩, _, _, _, n3, n4, _, _, _, _, _⟩ := HM.out w1 HB1.out
  go_wp2_with fail
  refine calls_at (HRw.out w1 (HB.out.trans (HB1.out.mono HB.out.size))) (by with_reducible rfl) (by with_reducible rfl) ?_
  rintro e w2 ⟨rfl, hb2⟩
  have HB2 : Hid (Below W.heap.size W w2) := bl_next HB1.out hb2
  clear hb2 m3 m4 n3 n4
  go_wp2_with fail
  go_loopw [5] (fun iv wr => ∃ k : Nat, iv = .int .i64 (k : Int) ∧ k ≤ d.ops.length ∧ Hid (Below W.heap.size W wr)) (fun iv _ => d.ops.length - (intOf iv).toNat)
  case atStart => exact ⟨0, rfl, Nat.zero_le _, HB2⟩
  case round =>
    obtain ⟨k, rfl, hk, HBr⟩ := hrel
    obtain ⟨⟨_, _, m2, _, _, _, _, _, _, _⟩, _, _, n2, _, _, _, _, _, _, _⟩ := HM.out wr HBr.out
    by_cases hkn : k < d.ops.length
    · have hkI : (k : Int) < (d.ops.length : Int) := by omega
      obtain ⟨⟨g, off, rfl, x0, x1, x2⟩, g', off', rfl, y0, y1, y2⟩ := HCo.out wr (HB.out.trans (HBr.out.mono HB.out.size)) k hkn
      obtain ⟨T, hT⟩ : ∃ T, txtOf d.ops[k].2.1 = T := ⟨_, rfl⟩
      obtain ⟨k1, hk1⟩ : ∃ n, d.ops[k].1 = n := ⟨_, rfl⟩
      obtain ⟨k3, hk3⟩ : ∃ n, d.ops[k].2.2 = n := ⟨_, rfl⟩
      rw [hT] at x1 y1
      rw [hk1] at x0 y0
      rw [hk3] at x2 y2
      have hne : ∀ W, (binOp .neq 84 (.agg #[.int .i64 k1, .string T, .int .i64 k3]) (.agg #[.int .i64 k1, .string T, .int .i64 k3])).run Tryz.prog W = .ok (.bool false) W := fun W => by rw [op_neq]; simp
      clear hT hk1 hk3
      go_wp2_with fail
      go_region
      have HBd : Hid (Below W.heap.size W wr.drew) := HBr.out.drew
      go_wp2_with fail
      go_roundw
      case rel => exact ⟨k + 1, by go_num, hkn, HBd⟩
      case measure => simp [intOf]; omega
    · have hkI : ¬ (k : Int) < (d.ops.length : Int) := by omega
      go_wp2_with fail
      go_loopw [6] (fun iv wq => ∃ k : Nat, iv = .int .i64 (k : Int) ∧ k ≤ d.lits.length ∧ Hid (Below W.heap.size W wq)) (fun iv _ => d.lits.length - (intOf iv).toNat)
      case atStart => exact ⟨0, rfl, Nat.zero_le _, HBr⟩
      case round =>
        obtain ⟨i, rfl, hi2, HBq⟩ := hrel
        obtain ⟨⟨_, _, _, _, _, m5, _, _, _, _⟩, _, _, _, _, _, n5, _, _, _, _⟩ := HM.out wr HBq.out
        by_cases hin : i < d.lits.length
        · have hiI : (i : Int) < (d.lits.length : Int) := by omega
          obtain ⟨⟨g, off, rfl, x0⟩, g', off', rfl, y0⟩ := HCl.out wr (HB.out.trans (HBq.out.mono HB.out.size)) i hin
          obtain ⟨z, hz⟩ : ∃ z, d.lits[i] = z := ⟨_, rfl⟩
          rw [hz] at x0 y0
          clear hz
          go_wp2_with fail
          go_region
          have HBd : Hid (Below W.heap.size W wr.drew) := HBq.out.drew
          go_wp2_with fail
          go_roundw
          case rel => exact ⟨i + 1, by go_num, hin, HBd⟩
          case measure => simp [intOf]; omega
        · have hiI : ¬ (i : Int) < (d.lits.length : Int) := by omega
          go_wp2_with fail
          go_ret
          exact ⟨rfl, HB.out.trans (HBq.out.mono HB.out.size)⟩
end Go.Proofs.YtibbnijicdijnaaGreatDoor
