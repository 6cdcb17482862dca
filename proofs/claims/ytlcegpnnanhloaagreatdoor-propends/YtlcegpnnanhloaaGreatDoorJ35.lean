/-
  Put together: PpGreat, PpMax.
-/
import Derived.Test.YtlcegpnnanhloaaGreatDoorJ34
namespace Go.Proofs.YtlcegpnnanhloaaGreatDoor
open Go.RowKit

/-- The greatest of the least, and of the greatest values. -/
def canLo (t : Bool) (D : List Dm) (x0 : Int) (xs : List Int) : Int := xs.foldl (fun m x => max m (spLo t (dAt D x))) (spLo t (dAt D x0))
def canHi (t : Bool) (D : List Dm) (x0 : Int) (xs : List Int) : Int := xs.foldl (fun m x => max m (spHi t (dAt D x))) (spHi t (dAt D x0))
def grStep (t : Bool) (D : List Dm) (xs : List Int) (a b : Int) (Q : List Sq) (o : Int) : List Sq :=
  if xs.any (rchB t D o a) then sKeepQ t Q o.toNat (-9223372036854775807) b else sKeepQ t (sKeepQ t Q o.toNat (-9223372036854775807) b) o.toNat a 9223372036854775807
/-- greatest: none: it can't be. -/
def greatQ (t : Bool) (D : List Dm) (y x0 : Int) (xs : List Int) (Q : List Sq) : Option (List Sq) :=
  if canHi t D x0 xs < spLo t (dAt D y) ∨ spHi t (dAt D y) < canLo t D x0 xs then none
  else some (xs.foldl (grStep t D xs (spLo t (dAt D y)) (spHi t (dAt D y))) (sKeepQ t Q y.toNat (canLo t D x0 xs) (canHi t D x0 xs)))
theorem can_next (f : Int → Int) (xs : List Int) (k : Nat) (hk : k < xs.length) (z : Int) : (xs.take (k + 1)).foldl (fun m x => max m (f x)) z = max ((xs.take k).foldl (fun m x => max m (f x)) z) (f xs[k]) := by
  rw [List.take_succ_eq_append_getElem hk, List.foldl_append]
  rfl
theorem gr_next (t : Bool) (D : List Dm) (ys xs : List Int) (a b : Int) (Q : List Sq) (k : Nat) (hk : k < xs.length) : (xs.take (k + 1)).foldl (grStep t D ys a b) Q = grStep t D ys a b ((xs.take k).foldl (grStep t D ys a b) Q) xs[k] := by
  rw [List.take_succ_eq_append_getElem hk, List.foldl_append]
  rfl

theorem lt_alloc2 {V : World} {o o2 : Obj} {n : Nat} (h : ((V.alloc o).alloc o2).heap.size ≤ n) : V.heap.size + 1 < n := by simp at h; omega
theorem set2_other {w : World} {N k : Nat} {a b : Value} (h : k ≠ N) : ((w.setCell ⟨N, 0, none⟩ a).setCell ⟨N, 1, none⟩ b).heap[k]? = w.heap[k]? := by
  rw [heap_setCell_other _ _ _ _ h, heap_setCell_other _ _ _ _ h]
/-- A new box of two bounds; two of them. -/
def One (k : Nat) (w : World) : Prop := w.heap[k]? = some (.cells #[.int .i64 0, .int .i64 0] 101 (0, 0))
theorem one_in {V w : World} (hb : Below (V.alloc (.cells #[.int .i64 0, .int .i64 0] 101 (0, 0))).heap.size (V.alloc (.cells #[.int .i64 0, .int .i64 0] 101 (0, 0))) w) : One V.heap.size w := (hb.block _ (by simp)).trans (heap_alloc_new V _)
theorem two_in {V w : World} (hb : Below ((V.alloc (.cells #[.int .i64 0, .int .i64 0] 101 (0, 0))).alloc (.cells #[.int .i64 0, .int .i64 0] 101 (0, 0))).heap.size ((V.alloc (.cells #[.int .i64 0, .int .i64 0] 101 (0, 0))).alloc (.cells #[.int .i64 0, .int .i64 0] 101 (0, 0))) w) : One V.heap.size w ∧ One (V.heap.size + 1) w :=
  ⟨(hb.block _ (by simp; omega)).trans ((heap_alloc_old (V.alloc _) _ (by simp)).trans (heap_alloc_new V _)), (hb.block _ (by simp)).trans (heap_alloc2_new V _ _)⟩
theorem one_inD {V w : World} (hb : Below (V.alloc (.cells #[.int .i64 0, .int .i64 0] 101 (0, 0))).drew.heap.size (V.alloc (.cells #[.int .i64 0, .int .i64 0] 101 (0, 0))).drew w) : One V.heap.size w := (hb.block V.heap.size (by show _ < (V.alloc _).heap.size; simp)).trans (heap_alloc_new V _)
theorem two_inD {V w : World} (hb : Below ((V.alloc (.cells #[.int .i64 0, .int .i64 0] 101 (0, 0))).alloc (.cells #[.int .i64 0, .int .i64 0] 101 (0, 0))).drew.heap.size ((V.alloc (.cells #[.int .i64 0, .int .i64 0] 101 (0, 0))).alloc (.cells #[.int .i64 0, .int .i64 0] 101 (0, 0))).drew w) : One V.heap.size w ∧ One (V.heap.size + 1) w :=
  ⟨(hb.block V.heap.size (by show _ < ((V.alloc _).alloc _).heap.size; simp; omega)).trans ((heap_alloc_old (V.alloc _) _ (by simp)).trans (heap_alloc_new V _)), (hb.block (V.heap.size + 1) (by show _ < ((V.alloc _).alloc _).heap.size; simp)).trans (heap_alloc2_new V _ _)⟩
theorem One.lt {k : Nat} {w : World} (h : One k w) : k < w.heap.size := (Array.getElem?_eq_some_iff.1 h).1
theorem One.c0 {k : Nat} {w w' : World} (h : One k w) (hb : Below w.heap.size w w') : One k w' := (hb.block _ h.lt).trans h
theorem One.c1 {k : Nat} {w w' : World} {o : Obj} (h : One k w) (hb : Below (w.alloc o).heap.size (w.alloc o) w') : One k w' := (hb.block _ (by have := h.lt; simp; omega)).trans ((heap_alloc_old w _ h.lt).trans h)
theorem One.c2 {k : Nat} {w w' : World} {o o2 : Obj} (h : One k w) (hb : Below ((w.alloc o).alloc o2).heap.size ((w.alloc o).alloc o2) w') : One k w' := (hb.block _ (by have := h.lt; simp; omega)).trans ((heap_alloc_old (w.alloc o) _ (by have := h.lt; simp; omega)).trans ((heap_alloc_old w _ h.lt).trans h))
/-- The two boxes, behind the region. -/
def CutR (W : World) (u1 q1 u2 q2 : Int) (s7 s8 : Value) (wx : World) : Prop := ∃ k7 k8, s7 = .pointer (some ⟨k7, 0, none⟩) ∧ s8 = .pointer (some ⟨k8, 0, none⟩) ∧ Hid (wx.heap[k7]? = some (.cells #[.int .i64 u1, .int .i64 q1] 101 (0, 0))) ∧ Hid (wx.heap[k8]? = some (.cells #[.int .i64 u2, .int .i64 q2] 101 (0, 0))) ∧ Hid (W.heap.size ≤ k7 ∧ W.heap.size ≤ k8 ∧ k7 ≠ k8) ∧ Hid (Below W.heap.size W wx)
section
variable {W w : World} {u1 q1 u2 q2 : Int}
theorem shape_nn (h : Below W.heap.size W w) : CutR W u1 q1 u2 q2 (.pointer (some ⟨w.heap.size, 0, none⟩)) (.pointer (some ⟨w.heap.size + 1, 0, none⟩)) ((w.alloc (.cells #[.int .i64 u1, .int .i64 q1] 101)).alloc (.cells #[.int .i64 u2, .int .i64 q2] 101)) :=
  ⟨_, _, rfl, rfl, (heap_alloc_old (w.alloc _) _ (by simp)).trans (heap_alloc_new w _), heap_alloc2_new w _ _, ⟨h.size, Nat.le_succ_of_le h.size, by omega⟩, bl_alloc (bl_alloc h _) _⟩
theorem shape_nm (h : Below W.heap.size W w) : CutR W u1 q1 u2 q2 (.pointer (some ⟨w.heap.size + 1, 0, none⟩)) (.pointer (some ⟨w.heap.size, 0, none⟩)) ((w.alloc (.cells #[.int .i64 u2, .int .i64 q2] 101)).alloc (.cells #[.int .i64 u1, .int .i64 q1] 101)) :=
  ⟨_, _, rfl, rfl, heap_alloc2_new w _ _, (heap_alloc_old (w.alloc _) _ (by simp)).trans (heap_alloc_new w _), ⟨Nat.le_succ_of_le h.size, h.size, by omega⟩, bl_alloc (bl_alloc h _) _⟩
theorem shape_on {k : Nat} (h : Below W.heap.size W w) (e : One k w) (hk : W.heap.size ≤ k) : CutR W u1 q1 u2 q2 (.pointer (some ⟨k, 0, none⟩)) (.pointer (some ⟨w.heap.size, 0, none⟩)) (((w.setCell ⟨k, 0, none⟩ (.int .i64 u1)).setCell ⟨k, 1, none⟩ (.int .i64 q1)).alloc (.cells #[.int .i64 u2, .int .i64 q2] 101)) := by
  have hs : ((w.setCell ⟨k, 0, none⟩ (.int .i64 u1)).setCell ⟨k, 1, none⟩ (.int .i64 q1)).heap.size = w.heap.size := by simp
  refine ⟨_, _, rfl, rfl, (heap_alloc_old _ _ (by rw [hs]; exact e.lt)).trans (set2 e _ _), ?_, ⟨hk, h.size, by have := e.lt; omega⟩, bl_alloc ((h.setCell hk _).setCell hk _) _⟩
  show _ = _
  rw [← hs]
  exact heap_alloc_new _ _
theorem shape_no {k : Nat} (h : Below W.heap.size W w) (e : One k w) (hk : W.heap.size ≤ k) : CutR W u1 q1 u2 q2 (.pointer (some ⟨w.heap.size, 0, none⟩)) (.pointer (some ⟨k, 0, none⟩)) (((w.setCell ⟨k, 0, none⟩ (.int .i64 u2)).setCell ⟨k, 1, none⟩ (.int .i64 q2)).alloc (.cells #[.int .i64 u1, .int .i64 q1] 101)) := by
  have hs : ((w.setCell ⟨k, 0, none⟩ (.int .i64 u2)).setCell ⟨k, 1, none⟩ (.int .i64 q2)).heap.size = w.heap.size := by simp
  refine ⟨_, _, rfl, rfl, ?_, (heap_alloc_old _ _ (by rw [hs]; exact e.lt)).trans (set2 e _ _), ⟨h.size, hk, by have := e.lt; omega⟩, bl_alloc ((h.setCell hk _).setCell hk _) _⟩
  show _ = _
  rw [← hs]
  exact heap_alloc_new _ _
theorem shape_oo {k j : Nat} (h : Below W.heap.size W w) (e : One k w) (f : One j w) (hk : W.heap.size ≤ k) (hj : W.heap.size ≤ j) (hn : k ≠ j) : CutR W u1 q1 u2 q2 (.pointer (some ⟨k, 0, none⟩)) (.pointer (some ⟨j, 0, none⟩)) ((((w.setCell ⟨k, 0, none⟩ (.int .i64 u1)).setCell ⟨k, 1, none⟩ (.int .i64 q1)).setCell ⟨j, 0, none⟩ (.int .i64 u2)).setCell ⟨j, 1, none⟩ (.int .i64 q2)) :=
  ⟨_, _, rfl, rfl, (set2_other hn).trans (set2 e _ _), set2 ((set2_other (fun h => hn h.symm)).trans f) _ _, ⟨hk, hj, hn⟩, ((((h.setCell hk _).setCell hk _).setCell hj _).setCell hj _)⟩
end

/-- Bounds of what can be. -/
theorem can_in (f : Int → Int) (xs : List Int) (z : Int) (hz : -2000000000 ≤ z ∧ z ≤ 2000000000) (hf : ∀ x ∈ xs, -2000000000 ≤ f x ∧ f x ≤ 2000000000) : -2000000000 ≤ xs.foldl (fun m x => max m (f x)) z ∧ xs.foldl (fun m x => max m (f x)) z ≤ 2000000000 := by
  induction xs generalizing z with
  | nil => exact hz
  | cons x xs ih =>
    have h1 := hf x List.mem_cons_self
    exact ih (max z (f x)) (by omega) (fun x hx => hf x (List.mem_cons_of_mem _ hx))
theorem GrC.of {N K8 lp : Nat} {t : Bool} {u q : Int} {w' : World} (h1 : w'.heap[N]? = some (.cells #[.pointer (some ⟨lp, 0, none⟩), .bool t] 127 (0, 0))) (h2 : w'.heap[K8]? = some (.cells #[.int .i64 u, .int .i64 q] 101 (0, 0))) : w'.cell? ⟨N, 0, none⟩ = some (.pointer (some ⟨lp, 0, none⟩)) ∧ w'.cell? ⟨N, 1, none⟩ = some (.bool t) ∧ w'.cell? ⟨K8, 0, none⟩ = some (.int .i64 u) ∧ w'.cell? ⟨K8, 1, none⟩ = some (.int .i64 q) :=
  ⟨cell_of h1 0, cell_of h1 1, cell_of h2 0, cell_of h2 1⟩

set_option maxRecDepth 10000 in
set_option maxHeartbeats 8000000 in
theorem great_any (B lp g p : Nat) (nv mv : Value) (s : St) (Q : List Sq) (t : Bool) (w : World) (h : LfQ B lp g p nv mv s Q w) (vx : Value) (xs : List Int) (hv : IntsK B w vx xs) (hx : ∀ x ∈ xs, 0 ≤ x ∧ x < (s.now.length : Int)) (hl : xs.length ≤ 64) (hp : 0 < xs.length) (y : Nat) (hy : y < s.now.length) : Calls Tryz.prog 89 #[sdVal lp t, .int .i64 (y : Int), vx] w (RlOut B lp g p nv mv s (greatQ t s.now (y : Int) xs[0] xs Q) w) := by
  have hBs := h.size
  have hgood := h.good
  obtain ⟨W, hW⟩ : ∃ W, w.alloc (.cells #[.pointer (some ⟨lp, 0, none⟩), .bool t] 127) = W := ⟨_, rfl⟩
  have hb0 : Below w.heap.size w W := by rw [← hW]; exact (Below.refl _ _).alloc (Nat.le_refl _) _
  have g0 : W.heap[w.heap.size]? = some (.cells #[.pointer (some ⟨lp, 0, none⟩), .bool t] 127 (0, 0)) := by rw [← hW]; exact heap_alloc_new w _
  have hlt0 := (Array.getElem?_eq_some_iff.1 g0).1
  obtain ⟨a, cap, rfl, _⟩ := hv.at.form
  have HVs : Hid (∀ w', Kq B w w' → ∀ k (hk : k < xs.length), ∃ b off, a = some ⟨b, off, none⟩ ∧ w'.cell? ⟨b, off + k, none⟩ = some (.int .i64 xs[k])) := fun w' hk k hkl => by
    obtain ⟨a', c', e1, _, hcell⟩ := hv w' hk
    injection e1 with e1 _ _
    obtain ⟨b, off, ha, _, hcl⟩ := hcell (by omega)
    exact ⟨b, off, by rw [e1, ha], hcl k hkl⟩
  obtain ⟨b, off, rfl, hcl⟩ := HVs.out w (Kq.refl _ _) 0 hp
  have hlt : b < w.heap.size := World.block_lt_of_cell? w _ hcl
  rw [Nat.add_zero] at hcl
  have HV2 : Hid (∀ w', Kq B w w' → ∀ k (hk : k < xs.length), w'.cell? ⟨b, off + k, none⟩ = some (.int .i64 xs[k])) := fun w' hk k hkl => by
    obtain ⟨b', off', e, hc⟩ := HVs.out w' hk k hkl
    injection e with e
    injection e with e1 e2 _
    subst e1 e2
    exact hc
  have HIk : Hid (IntsK B w (.slice (some ⟨b, off, none⟩) xs.length cap) xs) := hv
  have HL : Hid (∀ w', Below W.heap.size W w' → LfQ B lp g p nv mv s Q w') := fun w' hb => (h.below hb0).below hb
  have HG0 : Hid (∀ w', Below W.heap.size W w' → w'.heap[w.heap.size]? = some (.cells #[.pointer (some ⟨lp, 0, none⟩), .bool t] 127 (0, 0))) := fun w' hb => (hb.block _ hlt0).trans g0
  have HKW : Hid (∀ w', Below W.heap.size W w' → Kq B w w') := fun w' hb => Kq.of_below (hb0.trans (hb.mono hb0.size)) hBs
  obtain ⟨x0, hx0e, hx0⟩ : ∃ x0 : Nat, xs[0] = (x0 : Int) ∧ x0 < s.now.length := ⟨xs[0].toNat, by have := hx xs[0] (List.getElem_mem hp); omega, by have := hx xs[0] (List.getElem_mem hp); omega⟩
  rw [hx0e] at hcl ⊢
  have HC : Hid (∀ w', Below W.heap.size W w' → w'.cell? ⟨w.heap.size, 0, none⟩ = some (.pointer (some ⟨lp, 0, none⟩)) ∧ w'.cell? ⟨w.heap.size, 1, none⟩ = some (.bool t) ∧ w'.cell? ⟨b, off, none⟩ = some (.int .i64 (x0 : Int)) ∧ Below W.heap.size W w') := fun w' hb => ⟨cell_of ((hb.block _ hlt0).trans g0) 0, cell_of ((hb.block _ hlt0).trans g0) 1, ((hb0.trans (hb.mono hb0.size)).cell (p := ⟨b, _, none⟩) hlt).trans hcl, hb⟩
  have HB : Hid (Below w.heap.size w W) := hb0
  have H1 : Hid (∀ (m : Nat), m < s.now.length → ∀ w', Below W.heap.size W w' → Calls Tryz.prog 117 #[.agg #[.pointer (some ⟨lp, 0, none⟩), .bool t], .int .i64 (m : Int)] w' fun e w2 => e = .returned (.agg #[.int .i64 (spLo t (dAt s.now m)), .int .i64 (spHi t (dAt s.now m))]) ∧ Below w'.heap.size w' w2) := fun m hm w' hb => by
    rw [dAt_get hm]
    exact (HL.out w' hb).span t m hm
  have HX : Hid (∀ k (hk : k < xs.length), ∃ m : Nat, xs[k] = (m : Int) ∧ m < s.now.length) := fun k hk => ⟨xs[k].toNat, by have := hx xs[k] (List.getElem_mem hk); omega, by have := hx xs[k] (List.getElem_mem hk); omega⟩
  have HXs : Hid (∀ x ∈ xs, 0 ≤ x ∧ x < (s.now.length : Int)) := hx
  have HD : Hid (∀ m : Nat, m < s.now.length → -2000000000 ≤ spLo t (dAt s.now m) ∧ spLo t (dAt s.now m) ≤ 2000000000 ∧ -2000000000 ≤ spHi t (dAt s.now m) ∧ spHi t (dAt s.now m) ≤ 2000000000) := fun m hm => by
    rw [dAt_get hm]
    exact sp_in t (hgood _ (List.getElem_mem hm))
  have HDx : Hid (∀ x ∈ xs, -2000000000 ≤ spLo t (dAt s.now x) ∧ spLo t (dAt s.now x) ≤ 2000000000 ∧ -2000000000 ≤ spHi t (dAt s.now x) ∧ spHi t (dAt s.now x) ≤ 2000000000) := fun x hxm => by
    have := hx x hxm
    obtain ⟨m, rfl, hm⟩ : ∃ m : Nat, x = (m : Int) ∧ m < s.now.length := ⟨x.toNat, by omega, by omega⟩
    exact HD.out m hm
  have hnI : (0 : Int) < (xs.length : Int) := by omega
  have HKp : Hid (∀ (m : Nat), m < s.now.length → ∀ w' Q' (c d : Int), LfQ B lp g p nv mv s Q' w' → -9223372036854775807 ≤ c → c ≤ 9223372036854775807 → -9223372036854775807 ≤ d → d ≤ 9223372036854775807 → Calls Tryz.prog 118 #[.agg #[.pointer (some ⟨lp, 0, none⟩), .bool t], .int .i64 (m : Int), .agg #[.int .i64 c, .int .i64 d]] w' (KqOut B lp g p nv mv s (sKeepQ t Q' m c d) w')) := fun m hm w' Q' c d hL h1 h2 h3 h4 => hL.sKeep t m hm c d h1 h2 h3 h4
  have HRc : Hid (∀ (x v : Int) w' Q', LfQ B lp g p nv mv s Q' w' → Kq B w w' → Calls Tryz.prog 122 #[.agg #[.pointer (some ⟨lp, 0, none⟩), .bool t], .int .i64 x, .slice (some ⟨b, off, none⟩) xs.length cap, .int .i64 v] w' fun e w2 => e = .returned (.bool (xs.any (rchB t s.now x v))) ∧ Below w'.heap.size w' w2) := fun x v w' Q' hL hk => reach_any B lp g p nv mv s Q' t w' hL _ xs (hv w' hk) hx hl x v
  have HBsW : Hid (B ≤ W.heap.size) := Nat.le_trans hBs hb0.size
  obtain ⟨u1, hu1⟩ : ∃ u, spLo t (dAt s.now y) = u := ⟨_, rfl⟩
  obtain ⟨q1, hq1⟩ : ∃ u, spHi t (dAt s.now y) = u := ⟨_, rfl⟩
  obtain ⟨u2, hu2⟩ : ∃ u, spLo t (dAt s.now x0) = u := ⟨_, rfl⟩
  obtain ⟨q2, hq2⟩ : ∃ u, spHi t (dAt s.now x0) = u := ⟨_, rfl⟩
  have hdy := HD.out y hy
  have hd0 := HD.out x0 hx0
  rw [hu1, hq1] at hdy
  rw [hu2, hq2] at hd0
  have HY0 := H1.out y hy
  have HX0 := H1.out x0 hx0
  rw [hu1, hq1] at HY0
  rw [hu2, hq2] at HX0
  have HYh : Hid (∀ w', Below W.heap.size W w' → Calls Tryz.prog 117 #[.agg #[.pointer (some ⟨lp, 0, none⟩), .bool t], .int .i64 (y : Int)] w' fun e w2 => e = .returned (.agg #[.int .i64 u1, .int .i64 q1]) ∧ Below w'.heap.size w' w2) := HY0
  have HXh : Hid (∀ w', Below W.heap.size W w' → Calls Tryz.prog 117 #[.agg #[.pointer (some ⟨lp, 0, none⟩), .bool t], .int .i64 (x0 : Int)] w' fun e w2 => e = .returned (.agg #[.int .i64 u2, .int .i64 q2]) ∧ Below w'.heap.size w' w2) := HX0
  obtain ⟨D, hD⟩ : ∃ D, s.now = D := ⟨_, rfl⟩
  have HR : Hid (greatQ t s.now (y : Int) (x0 : Int) xs Q = if xs.foldl (fun m x => max m (spHi t (dAt D x))) q2 < u1 ∨ q1 < xs.foldl (fun m x => max m (spLo t (dAt D x))) u2 then none else some (xs.foldl (grStep t D xs u1 q1) (sKeepQ t Q y (xs.foldl (fun m x => max m (spLo t (dAt D x))) u2) (xs.foldl (fun m x => max m (spHi t (dAt D x))) q2)))) := by
    show _ = _
    unfold greatQ canLo canHi
    rw [hu1, hq1, hu2, hq2, hD]
    rfl
  obtain ⟨R, hR⟩ : ∃ R, greatQ t s.now (y : Int) (x0 : Int) xs Q = R := ⟨_, rfl⟩
  rw [hR] at HR ⊢
  rw [hD] at H1 HDx HRc HX HKp hy
  have HGt : Hid (∀ (a b c d : Int) w', Calls Tryz.prog 121 #[.agg #[.int .i64 a, .int .i64 b], .agg #[.int .i64 c, .int .i64 d]] w' fun e w2 => e = .returned (.agg #[.int .i64 (max a c), .int .i64 (max b d)]) ∧ Below w'.heap.size w' w2) := fun a b c d w' => greater_any a b c d w'
  clear h hv hx hgood hBs hb0 g0 hlt0 hx0e HY0 HX0 hu1 hq1 hu2 hq2 hR hcl hlt HVs HD hD
  unfold sdVal
  go_enter Tryz.func89, Tryz.ntmps89
  go_wp2_with fail
  go_cut [7, 8] from 13 to 74 (fun s7 s8 wx => CutR W u1 q1 u2 q2 s7 s8 wx)
  case first =>
    go_region_held3 (fun w' => w'.cell? ⟨w.heap.size, 0, none⟩ = some (.pointer (some ⟨lp, 0, none⟩)) ∧ w'.cell? ⟨w.heap.size, 1, none⟩ = some (.bool t) ∧ w'.cell? ⟨b, off, none⟩ = some (.int .i64 (x0 : Int)) ∧ Below W.heap.size W w')
      ((refine HC.out _ ?_; (repeat (first | exact HB5.out | exact HB4.out | exact (Below.refl _ _).drew | exact And.right (And.right (And.right (by assumption))) | exact Below.refl _ _ | refine bl_alloc ?_ _ | refine Below.drew ?_ | refine Below.setCell (hp := by first | exact HB5.out.size | exact HB4.out.size | exact Nat.le_refl _ | exact Nat.le_succ _ | exact Nat.le_succ_of_le HB4.out.size | exact Nat.le_succ_of_le HB5.out.size) ?_ _))))
      (first | (go_at_call 117; refine calls_at (HYh.out _ (And.right (And.right (And.right (by assumption))))) (by with_reducible rfl) (by with_reducible rfl) ?_; rintro e w4 ⟨rfl, hb4⟩; (have HB4 : Hid (Below W.heap.size W w4) := bl_next (And.right (And.right (And.right (by assumption)))) hb4); (first | (have E0 : One W.heap.size w4 ∧ One (W.heap.size + 1) w4 := (by with_reducible exact two_inD hb4)) | (have E0 : One W.heap.size w4 := (by with_reducible exact one_inD hb4)) | skip); obtain ⟨hc4, hf4⟩ := bcell hb4; (first | (have hz4 : W.heap.size + 1 < w4.heap.size := lt_alloc2 (V := W.drew) hb4.size; have hz4' : W.heap.size < w4.heap.size := Nat.lt_of_succ_lt hz4) | (have hz4 : W.heap.size < w4.heap.size := lt_alloc (V := W.drew) hb4.size; have hz4' : W.heap.size < w4.heap.size + 1 := Nat.lt_succ_of_lt hz4) | skip)) | (go_at_call 117; refine calls_at (HXh.out _ (And.right (And.right (And.right (by assumption))))) (by with_reducible rfl) (by with_reducible rfl) ?_; rintro e w5 ⟨rfl, hb5⟩; (have HB5 : Hid (Below W.heap.size W w5) := bl_next (And.right (And.right (And.right (by assumption)))) hb5); (first | (have E1 : One w4.heap.size w5 ∧ One (w4.heap.size + 1) w5 := (by with_reducible exact two_in hb5)) | (have E1 : One w4.heap.size w5 := (by with_reducible exact one_in hb5)) | skip); (first | (have F0 : One W.heap.size w5 ∧ One (W.heap.size + 1) w5 := (by with_reducible exact ⟨One.c0 (And.left E0) hb5, One.c0 (And.right E0) hb5⟩)) | (have F0 : One W.heap.size w5 := (by with_reducible exact One.c1 E0 hb5)) | (have F0 : One W.heap.size w5 := (by with_reducible exact One.c0 E0 hb5)) | skip); obtain ⟨hc5, hf5⟩ := bcell hb5; (first | (have hz5 : w4.heap.size + 1 < w5.heap.size := lt_alloc2 (V := w4) hb5.size; have hz5' : w4.heap.size < w5.heap.size := Nat.lt_of_succ_lt hz5) | (have hz5 : w4.heap.size < w5.heap.size := lt_alloc (V := w4) hb5.size) | skip); (first | (have q5 : w4.heap.size ≤ w5.heap.size := Nat.le_of_lt (Nat.lt_of_succ_lt (lt_alloc2 (V := w4) hb5.size))) | (have q5 : w4.heap.size ≤ w5.heap.size := Nat.le_of_lt (lt_alloc (V := w4) hb5.size)) | (have q5 : w4.heap.size ≤ w5.heap.size := hb5.size)); (first | (have hz6 : W.heap.size + 1 < w5.heap.size := Nat.lt_of_lt_of_le hz4 q5; have hz6' : W.heap.size < w5.heap.size := Nat.lt_of_succ_lt hz6) | (have hz6 : W.heap.size < w5.heap.size := Nat.lt_of_lt_of_le hz4 q5) | skip)))
    all_goals (go_wp2_with fail)
    all_goals go_meet
    all_goals first
      | with_reducible exact shape_nn HB5.out
      | with_reducible exact shape_nm HB5.out
      | with_reducible exact shape_on HB5.out F0 (Nat.le_refl _)
      | with_reducible exact shape_on HB5.out E1 HB4.out.size
      | with_reducible exact shape_no HB5.out F0 (Nat.le_refl _)
      | with_reducible exact shape_no HB5.out E1 HB4.out.size
      | with_reducible exact shape_oo HB5.out F0 E1 (Nat.le_refl _) HB4.out.size (Nat.ne_of_lt (One.lt E0))
      | with_reducible exact shape_oo HB5.out E1 F0 HB4.out.size (Nat.le_refl _) (Nat.ne_of_gt (One.lt E0))
      | with_reducible exact shape_oo HB5.out (And.left F0) (And.right F0) (Nat.le_refl _) (Nat.le_succ _) (Nat.ne_of_lt (Nat.lt_succ_self _))
      | with_reducible exact shape_oo HB5.out (And.right F0) (And.left F0) (Nat.le_succ _) (Nat.le_refl _) (Nat.ne_of_gt (Nat.lt_succ_self _))
      | with_reducible exact shape_oo HB5.out (And.left E1) (And.right E1) HB4.out.size (Nat.le_succ_of_le HB4.out.size) (Nat.ne_of_lt (Nat.lt_succ_self _))
      | with_reducible exact shape_oo HB5.out (And.right E1) (And.left E1) (Nat.le_succ_of_le HB4.out.size) HB4.out.size (Nat.ne_of_gt (Nat.lt_succ_self _))
  case rest =>
  obtain ⟨k7, k8, rfl, rfl, H7, H8, HKs, HBx⟩ := hcut
  rename World => wx
  clear HYh HXh HC hW
  go_wp2_with fail
  go_loopw [23] (fun iv wr => ∃ (k : Nat), iv = .int .i64 (k : Int) ∧ k ≤ xs.length ∧ Hid (wr.heap[k7]? = some (.cells #[.int .i64 u1, .int .i64 q1] 101 (0, 0))) ∧ Hid (wr.heap[k8]? = some (.cells #[.int .i64 ((xs.take k).foldl (fun m x => max m (spLo t (dAt D x))) u2), .int .i64 ((xs.take k).foldl (fun m x => max m (spHi t (dAt D x))) q2)] 101 (0, 0))) ∧ Hid (Below W.heap.size W wr)) (fun iv _ => xs.length - (intOf iv).toNat)
  case atStart => exact ⟨0, rfl, Nat.zero_le _, H7, H8, HBx⟩
  case round =>
  obtain ⟨k, rfl, hk, H7r, H8r, HBr⟩ := hrel
  by_cases hkn : k < xs.length
  · have hkI : (k : Int) < (xs.length : Int) := by omega
    obtain ⟨m, hm, hmn⟩ := HX.out k hkn
    have f0 := HV2.out wr (HKW.out wr HBr.out) k hkn
    have hn1 := can_next (fun x => spLo t (dAt D x)) xs k hkn u2
    have hn2 := can_next (fun x => spHi t (dAt D x)) xs k hkn q2
    have HSm := H1.out m hmn
    rw [hm] at f0 hn1 hn2
    obtain ⟨cl, hcl⟩ : ∃ c, (xs.take k).foldl (fun m x => max m (spLo t (dAt D x))) u2 = c := ⟨_, rfl⟩
    obtain ⟨ch, hch⟩ : ∃ c, (xs.take k).foldl (fun m x => max m (spHi t (dAt D x))) q2 = c := ⟨_, rfl⟩
    obtain ⟨u, hu⟩ : ∃ c, spLo t (dAt D (m : Int)) = c := ⟨_, rfl⟩
    obtain ⟨q, hq⟩ : ∃ c, spHi t (dAt D (m : Int)) = c := ⟨_, rfl⟩
    rw [hcl] at H8r hn1
    rw [hch] at H8r hn2
    rw [hu] at HSm hn1
    rw [hq] at HSm hn2
    have HN : Hid ((xs.take (k + 1)).foldl (fun m x => max m (spLo t (dAt D x))) u2 = max cl u ∧ (xs.take (k + 1)).foldl (fun m x => max m (spHi t (dAt D x))) q2 = max ch q) := ⟨hn1, hn2⟩
    have HSm' : Hid (∀ w', Below W.heap.size W w' → Calls Tryz.prog 117 #[.agg #[.pointer (some ⟨lp, 0, none⟩), .bool t], .int .i64 (m : Int)] w' fun e w2 => e = .returned (.agg #[.int .i64 u, .int .i64 q]) ∧ Below w'.heap.size w' w2) := HSm
    have HGr : Hid (∀ w', Below w'.heap.size wr w' → True) := fun _ _ => trivial
    have HCq : Hid (∀ w', Below wr.heap.size wr w' → w'.cell? ⟨w.heap.size, 0, none⟩ = some (.pointer (some ⟨lp, 0, none⟩)) ∧ w'.cell? ⟨w.heap.size, 1, none⟩ = some (.bool t) ∧ w'.cell? ⟨k8, 0, none⟩ = some (.int .i64 cl) ∧ w'.cell? ⟨k8, 1, none⟩ = some (.int .i64 ch)) := fun w' hb => by
      have h8 := (hb.block _ (Array.getElem?_eq_some_iff.1 H8r.out).1).trans H8r.out
      have h0 := HG0.out w' (HBr.out.trans (hb.mono HBr.out.size))
      exact GrC.of h0 h8
    clear hn1 hn2 hcl hch hu hq HSm HGr hm
    go_wp2_with fail
    refine wp_region_T (fun _ => True) (fun w' => w'.cell? ⟨w.heap.size, 0, none⟩ = some (.pointer (some ⟨lp, 0, none⟩)) ∧ w'.cell? ⟨w.heap.size, 1, none⟩ = some (.bool t) ∧ w'.cell? ⟨k8, 0, none⟩ = some (.int .i64 cl) ∧ w'.cell? ⟨k8, 1, none⟩ = some (.int .i64 ch)) [5] (by kernel_rfl) ⟨trivial, HCq.out _ (Below.refl _ _).drew⟩ (fun hHeld => ?_)
    have HBd : Hid (Below wr.heap.size wr wr.drew) := (Below.refl _ _).drew
    generalize wr.drew = U at HBd hHeld ⊢
    refine wpAnyT_take (i := 0) (oi := ⟨some 27, .load 101 (.tmp 8), _, _, _, _⟩) (v := ?vR5c1x0) rfl (by kernel_rfl) (by kernel_rfl) (by kernel_rfl) (by kernel_rfl) (by kernel_rfl) (fun _ _ _ h => h) (Or.inl ⟨by rfl, ?hyR5c1x0⟩) (by assumption) ?restR5c1x0
    case hyR5c1x0 => (intro w hSw; (try dsimp only at hSw); go_simp; try (with_reducible rfl))
    try simp only [Act.put, List.setIfInBounds_toArray, List.set_cons_zero, List.set_cons_succ]
    refine wpAnyT_take (i := 1) (oi := ⟨some 28, .load 127 (.tmp 3), _, _, _, _⟩) (v := ?vR5c1x1) rfl (by kernel_rfl) (by kernel_rfl) (by kernel_rfl) (by kernel_rfl) (by kernel_rfl) (fun _ _ _ h => h) (Or.inl ⟨by rfl, ?hyR5c1x1⟩) (by assumption) ?restR5c1x1
    case hyR5c1x1 => (intro w hSw; (try dsimp only at hSw); go_simp; try (with_reducible rfl))
    try simp only [Act.put, List.setIfInBounds_toArray, List.set_cons_zero, List.set_cons_succ]
    refine wpAnyT_takeB (i := 2) (oi := ⟨some 29, .move (.tmp 10), _, _, _, _⟩) (v := ?vR5c1x2) rfl (by kernel_rfl) (by kernel_rfl) (by kernel_rfl) (by kernel_rfl) (fun _ _ _ h => h) (Or.inl ⟨by rfl, ?hyR5c1x2⟩) (by assumption) ?restR5c1x2
    case hyR5c1x2 => (intro w hSw; (try dsimp only at hSw); go_simp; try (with_reducible rfl))
    try simp only [Act.put, List.setIfInBounds_toArray, List.set_cons_zero, List.set_cons_succ]
    refine wpAnyT_one (i := 3) (o := ⟨some 30, .call { callee := .value (.func 117), args := #[(.tmp 28), (.tmp 29)], argTypes := #[127, 3] }, _, _, _, _⟩) (by kernel_rfl) rfl (fun K hK => ?_)
    go_simp
    refine calls_at (HSm'.out _ (HBr.out.trans (HBd.out.mono HBr.out.size))) (by with_reducible rfl) (by with_reducible rfl) ?_
    rintro e w2 ⟨rfl, hb2⟩
    go_wp2_with fail
    have HB2 : Hid (Below wr.heap.size wr w2) := HBd.out.trans (hb2.mono HBd.out.size)
    clear hb2 hHeld
    have hHeld := (⟨trivial, HCq.out _ HB2.out⟩ : True ∧ _)
    refine hK.out _ _ ⟨trivial, fun _ => hHeld.2⟩ ?_
    clear hK K
    refine wpAnyT_one (i := 4) (o := ⟨some 31, .call { callee := .value (.func 121), args := #[(.tmp 27), (.tmp 30)], argTypes := #[101, 101] }, _, _, _, _⟩) (by kernel_rfl) rfl (fun K hK => ?_)
    go_simp
    refine calls_at (HGt.out cl ch u q w2) (by with_reducible rfl) (by with_reducible rfl) ?_
    rintro e w3 ⟨rfl, hb3⟩
    go_wp2_with fail
    have HB3 : Hid (Below wr.heap.size wr w3) := HB2.out.trans (hb3.mono HB2.out.size)
    clear hb3 hHeld
    have hHeld := (⟨trivial, HCq.out _ HB3.out⟩ : True ∧ _)
    obtain ⟨_, _, _, d0, d1⟩ := hHeld
    have hHeld := (⟨trivial, HCq.out _ HB3.out⟩ : True ∧ _)
    have h83 : w3.heap[k8]? = some (.cells #[.int .i64 cl, .int .i64 ch] 101 (0, 0)) := (HB3.out.block _ (Array.getElem?_eq_some_iff.1 H8r.out).1).trans H8r.out
    have dz : ∀ i, w3.frozen? ⟨k8, i, none⟩ = false := frozen_of h83
    have H83 : Hid (w3.heap[k8]? = some (.cells #[.int .i64 cl, .int .i64 ch] 101 (0, 0))) := h83
    clear h83
    refine hK.out _ _ ⟨trivial, fun _ => hHeld.2⟩ ?_
    clear hK K
    refine wpAnyT_late (i := 5) (o := ⟨none, .store 101 (.tmp 8) (.tmp 31), _, _, _, _⟩) (by kernel_rfl) rfl (by kernel_rfl) (fun K hK => ?_)
    go_simp
    refine hK.out _ _ ?shR5c1x5 ?restR5c1x5
    case shR5c1x5 => ((try dsimp only); all_goals trivial)
    clear hK K
    try simp only [Act.put, List.setIfInBounds_toArray, List.set_cons_zero, List.set_cons_succ]
    refine wpAnyT_done (by kernel_rfl) ?_ _
    have HB4 : Hid (Below W.heap.size W ((w3.setCell ⟨k8, 0, none⟩ (.int .i64 (max cl u))).setCell ⟨k8, 1, none⟩ (.int .i64 (max ch q)))) := ((HBr.out.trans (HB3.out.mono HBr.out.size)).setCell HKs.out.2.1 _).setCell HKs.out.2.1 _
    have H84 : Hid (((w3.setCell ⟨k8, 0, none⟩ (.int .i64 (max cl u))).setCell ⟨k8, 1, none⟩ (.int .i64 (max ch q))).heap[k8]? = some (.cells #[.int .i64 (max cl u), .int .i64 (max ch q)] 101 (0, 0))) := set2 H83.out _ _
    have H74 : Hid (((w3.setCell ⟨k8, 0, none⟩ (.int .i64 (max cl u))).setCell ⟨k8, 1, none⟩ (.int .i64 (max ch q))).heap[k7]? = some (.cells #[.int .i64 u1, .int .i64 q1] 101 (0, 0))) := (set2_other HKs.out.2.2).trans ((HB3.out.block _ (Array.getElem?_eq_some_iff.1 H7r.out).1).trans H7r.out)
    clear hHeld d0 d1 dz
    go_wp2_with fail
    go_roundw
    case rel => exact ⟨k + 1, by go_num, hkn, H74, (by show _ = _; rw [HN.out.1, HN.out.2]; exact H84.out), HB4⟩
    case measure => simp [intOf]; omega
  have hke : k = xs.length := by omega
  subst hke
  have hkI : ¬ (xs.length : Int) < (xs.length : Int) := by omega
  rw [List.take_length] at H8r
  obtain ⟨cl, hcl⟩ : ∃ c, xs.foldl (fun m x => max m (spLo t (dAt D x))) u2 = c := ⟨_, rfl⟩
  obtain ⟨ch, hch⟩ : ∃ c, xs.foldl (fun m x => max m (spHi t (dAt D x))) q2 = c := ⟨_, rfl⟩
  have hclb := can_in (fun x => spLo t (dAt D x)) xs u2 ⟨hd0.1, hd0.2.1⟩ (fun x hx => ⟨(HDx.out x hx).1, (HDx.out x hx).2.1⟩)
  have hchb := can_in (fun x => spHi t (dAt D x)) xs q2 ⟨hd0.2.2.1, hd0.2.2.2⟩ (fun x hx => ⟨(HDx.out x hx).2.2.1, (HDx.out x hx).2.2.2⟩)
  rw [hcl] at hclb H8r HR
  rw [hch] at hchb H8r HR
  clear hcl hch
  have e80 : wr.cell? ⟨k8, 0, none⟩ = some (.int .i64 cl) := cell_of H8r.out 0
  have e81 : wr.cell? ⟨k8, 1, none⟩ = some (.int .i64 ch) := cell_of H8r.out 1
  have e70 : wr.cell? ⟨k7, 0, none⟩ = some (.int .i64 u1) := cell_of H7r.out 0
  have e71 : wr.cell? ⟨k7, 1, none⟩ = some (.int .i64 q1) := cell_of H7r.out 1
  have e30 : wr.cell? ⟨w.heap.size, 0, none⟩ = some (.pointer (some ⟨lp, 0, none⟩)) := cell_of (HG0.out wr HBr.out) 0
  have e31 : wr.cell? ⟨w.heap.size, 1, none⟩ = some (.bool t) := cell_of (HG0.out wr HBr.out) 1
  by_cases hf1 : ch < u1
  · have HRn : Hid (R = none) := by show _ = _; rw [HR.out, if_pos (.inl hf1)]
    go_wp2_with fail
    go_ret
    exact ⟨by rw [HRn.out]; rfl, (fun Q' h => by rw [HRn.out] at h; cases h), HKW.out wr HBr.out⟩
  by_cases hf2 : q1 < cl
  · have HRn : Hid (R = none) := by show _ = _; rw [HR.out, if_pos (.inr hf2)]
    go_wp2_with fail
    go_ret
    exact ⟨by rw [HRn.out]; rfl, (fun Q' h => by rw [HRn.out] at h; cases h), HKW.out wr HBr.out⟩
  have HRs : Hid (R = some (xs.foldl (grStep t D xs u1 q1) (sKeepQ t Q y cl ch))) := by show _ = _; rw [HR.out, if_neg (by omega)]
  obtain ⟨hc1, hc2⟩ := hclb
  obtain ⟨hc3, hc4⟩ := hchb
  obtain ⟨hd1, hd2, hd3, hd4⟩ := hdy
  clear HR hd0
  go_wp2_with fail
  refine calls_at (HKp.out y hy wr Q cl ch (HL.out wr HBr.out) (by omega) (by omega) (by omega) (by omega)) (by with_reducible rfl) (by with_reducible rfl) ?_
  rintro e wz ⟨rfl, hLz, hkz⟩
  have HLz : Hid (LfQ B lp g p nv mv s (sKeepQ t Q y cl ch) wz) := hLz
  have HKz : Hid (Kq B w wz) := (HKW.out wr HBr.out).trans hkz
  have H7z : Hid (wz.heap[k7]? = some (.cells #[.int .i64 u1, .int .i64 q1] 101 (0, 0))) := hkz.block H7r.out (by decide) (by decide)
  have H3z : Hid (wz.heap[w.heap.size]? = some (.cells #[.pointer (some ⟨lp, 0, none⟩), .bool t] 127 (0, 0))) := hkz.block (HG0.out wr HBr.out) (by decide) (by decide)
  clear hLz hkz e80 e81 e70 e71 e30 e31
  go_wp2_with fail
  go_loopw [51] (fun iv wr => ∃ (k : Nat), iv = .int .i64 (k : Int) ∧ k ≤ xs.length ∧ Hid (LfQ B lp g p nv mv s ((xs.take k).foldl (grStep t D xs u1 q1) (sKeepQ t Q y cl ch)) wr) ∧ Hid (Kq B wz wr)) (fun iv _ => xs.length - (intOf iv).toNat)
  case atStart => exact ⟨0, rfl, Nat.zero_le _, HLz, Kq.refl _ _⟩
  case round =>
  obtain ⟨k, rfl, hk2, HLr, HKr⟩ := hrel
  rename World => wq
  by_cases hkn2 : k < xs.length
  · have hkI2 : (k : Int) < (xs.length : Int) := by omega
    obtain ⟨m, hm, hmn⟩ := HX.out k hkn2
    have f0 := HV2.out wq (HKz.out.trans HKr.out) k hkn2
    have hnx := gr_next t D xs xs u1 q1 (sKeepQ t Q y cl ch) k hkn2
    rw [hm] at f0 hnx
    unfold grStep at hnx
    rw [Int.toNat_natCast] at hnx
    obtain ⟨Qk, hQk⟩ : ∃ c, (xs.take k).foldl (grStep t D xs u1 q1) (sKeepQ t Q y cl ch) = c := ⟨_, rfl⟩
    have hQk2 : (xs.take k).foldl (fun Q o => if xs.any (rchB t D o u1) then sKeepQ t Q o.toNat (-9223372036854775807) q1 else sKeepQ t (sKeepQ t Q o.toNat (-9223372036854775807) q1) o.toNat u1 9223372036854775807) (sKeepQ t Q y cl ch) = Qk := hQk
    rw [hQk] at HLr
    have HN : Hid ((xs.take (k + 1)).foldl (grStep t D xs u1 q1) (sKeepQ t Q y cl ch) = if xs.any (rchB t D (m : Int) u1) then sKeepQ t Qk m (-9223372036854775807) q1 else sKeepQ t (sKeepQ t Qk m (-9223372036854775807) q1) m u1 9223372036854775807) := by
      show _ = _
      rw [← hQk]
      exact hnx
    have H7q : Hid (wq.heap[k7]? = some (.cells #[.int .i64 u1, .int .i64 q1] 101 (0, 0))) := HKr.out.block H7z.out (by decide) (by decide)
    have H3q : Hid (wq.heap[w.heap.size]? = some (.cells #[.pointer (some ⟨lp, 0, none⟩), .bool t] 127 (0, 0))) := HKr.out.block H3z.out (by decide) (by decide)
    have HKk := HKp.out m hmn
    have HKk' : Hid (∀ (w' : World) (Q' : List Sq) (c d : Int), LfQ B lp g p nv mv s Q' w' → -9223372036854775807 ≤ c → c ≤ 9223372036854775807 → -9223372036854775807 ≤ d → d ≤ 9223372036854775807 → Calls Tryz.prog 118 #[.agg #[.pointer (some ⟨lp, 0, none⟩), .bool t], .int .i64 (m : Int), .agg #[.int .i64 c, .int .i64 d]] w' (KqOut B lp g p nv mv s (sKeepQ t Q' m c d) w')) := HKk
    have HUp : Hid (∀ w', Calls Tryz.prog 119 #[.int .i64 q1] w' fun e w2 => e = .returned (.agg #[.int .i64 (-9223372036854775807), .int .i64 q1]) ∧ Below w'.heap.size w' w2) := fun w' => upTo_any q1 w'
    have HFr : Hid (∀ w', Calls Tryz.prog 120 #[.int .i64 u1] w' fun e w2 => e = .returned (.agg #[.int .i64 u1, .int .i64 9223372036854775807]) ∧ Below w'.heap.size w' w2) := fun w' => fromB_any u1 w'
    have HLd : Hid (LfQ B lp g p nv mv s Qk wq.drew) := HLr.out.below (Below.refl _ _).drew
    have HKd : Hid (Kq B wq wq.drew) := Kq.of_below (Below.refl _ _).drew HLr.out.size
    clear hnx hQk hQk2 HKk hm
    go_wp2_with fail
    clear f0
    go_cut [] from 55 to 74 (fun wx => Hid (LfQ B lp g p nv mv s (sKeepQ t Qk m (-9223372036854775807) q1) wx) ∧ Hid (Kq B wq wx))
    case first =>
      go_region_held3 (fun w' => w'.cell? ⟨w.heap.size, 0, none⟩ = some (.pointer (some ⟨lp, 0, none⟩)) ∧ w'.cell? ⟨w.heap.size, 1, none⟩ = some (.bool t) ∧ w'.cell? ⟨k7, 0, none⟩ = some (.int .i64 u1) ∧ w'.cell? ⟨k7, 1, none⟩ = some (.int .i64 q1))
        (first | exact AmC.of H3q.out H7q.out HK5.out | exact AmC.of H3q.out H7q.out HK4.out | exact AmC.of H3q.out H7q.out HKd.out)
        (first | (go_at_call 119; refine calls_at (HUp.out _) (by with_reducible rfl) (by with_reducible rfl) ?_; rintro e w4 ⟨rfl, hb4⟩; (have HL4 : Hid (LfQ B lp g p nv mv s Qk w4) := HLd.out.below hb4); (have HK4 : Hid (Kq B wq w4) := HKd.out.next hb4 HLd.out.size); clear hb4) | (go_at_call 118; refine calls_at (HKk'.out w4 Qk (-9223372036854775807) q1 HL4.out (by omega) (by omega) (by omega) (by omega)) (by with_reducible rfl) (by with_reducible rfl) ?_; rintro e w5 ⟨rfl, hL5, hk5⟩; (have HL5 : Hid (LfQ B lp g p nv mv s (sKeepQ t Qk m (-9223372036854775807) q1) w5) := hL5); (have HK5 : Hid (Kq B wq w5) := HK4.out.trans hk5); clear hL5 hk5))
      go_wp2_with fail
      go_meet
      exact ⟨HL5, HK5⟩
    case rest =>
    obtain ⟨HLx, HKx⟩ := hcut
    rename World => wx2
    have e30 : wx2.cell? ⟨w.heap.size, 0, none⟩ = some (.pointer (some ⟨lp, 0, none⟩)) := cell_of (HKx.out.block H3q.out (by decide) (by decide)) 0
    have e31 : wx2.cell? ⟨w.heap.size, 1, none⟩ = some (.bool t) := cell_of (HKx.out.block H3q.out (by decide) (by decide)) 1
    have e70 : wx2.cell? ⟨k7, 0, none⟩ = some (.int .i64 u1) := cell_of (HKx.out.block H7q.out (by decide) (by decide)) 0
    have HRq := HRc.out (m : Int) u1 wx2 _ HLx.out ((HKz.out.trans HKr.out).trans HKx.out)
    obtain ⟨r, hr⟩ : ∃ r, xs.any (rchB t D (m : Int) u1) = r := ⟨_, rfl⟩
    rw [hr] at HRq HN
    have HRq' : Hid (Calls Tryz.prog 122 #[.agg #[.pointer (some ⟨lp, 0, none⟩), .bool t], .int .i64 (m : Int), .slice (some ⟨b, off, none⟩) xs.length cap, .int .i64 u1] wx2 fun e w2 => e = .returned (.bool r) ∧ Below wx2.heap.size wx2 w2) := HRq
    clear hr HRq
    go_wp2_with fail
    refine calls_at HRq'.out (by with_reducible rfl) (by with_reducible rfl) ?_
    rintro e w6 ⟨rfl, hb6⟩
    have HL6 : Hid (LfQ B lp g p nv mv s (sKeepQ t Qk m (-9223372036854775807) q1) w6) := HLx.out.below hb6
    have HK6 : Hid (Kq B wq w6) := HKx.out.next hb6 HLx.out.size
    clear hb6 e30 e31 e70
    cases r with
    | true =>
      have HN2 : Hid ((xs.take (k + 1)).foldl (grStep t D xs u1 q1) (sKeepQ t Q y cl ch) = sKeepQ t Qk m (-9223372036854775807) q1) := HN.out.trans (if_pos rfl)
      go_wp2_with fail
      go_roundw
      case rel => exact ⟨k + 1, by go_num, hkn2, (by show LfQ _ _ _ _ _ _ _ _ _; rw [HN2.out]; exact HL6.out), HKr.out.trans HK6.out⟩
      case measure => simp [intOf]; omega
    | false =>
      have HN2 : Hid ((xs.take (k + 1)).foldl (grStep t D xs u1 q1) (sKeepQ t Q y cl ch) = sKeepQ t (sKeepQ t Qk m (-9223372036854775807) q1) m u1 9223372036854775807) := HN.out.trans (if_neg (by simp))
      have HLe : Hid (LfQ B lp g p nv mv s (sKeepQ t Qk m (-9223372036854775807) q1) w6.drew) := HL6.out.below (Below.refl _ _).drew
      have HKe : Hid (Kq B wq w6.drew) := HK6.out.next (Below.refl _ _).drew HL6.out.size
      go_wp2_with fail
      go_region_held3 (fun w' => w'.cell? ⟨w.heap.size, 0, none⟩ = some (.pointer (some ⟨lp, 0, none⟩)) ∧ w'.cell? ⟨w.heap.size, 1, none⟩ = some (.bool t) ∧ w'.cell? ⟨k7, 0, none⟩ = some (.int .i64 u1) ∧ w'.cell? ⟨k7, 1, none⟩ = some (.int .i64 q1))
        (first | exact AmC.of H3q.out H7q.out HK8.out | exact AmC.of H3q.out H7q.out HK7.out | exact AmC.of H3q.out H7q.out HKe.out)
        (first | (go_at_call 120; refine calls_at (HFr.out _) (by with_reducible rfl) (by with_reducible rfl) ?_; rintro e w7 ⟨rfl, hb7⟩; (have HL7 : Hid (LfQ B lp g p nv mv s (sKeepQ t Qk m (-9223372036854775807) q1) w7) := HLe.out.below hb7); (have HK7 : Hid (Kq B wq w7) := HKe.out.next hb7 HLe.out.size); clear hb7) | (go_at_call 118; refine calls_at (HKk'.out w7 _ u1 9223372036854775807 HL7.out (by omega) (by omega) (by omega) (by omega)) (by with_reducible rfl) (by with_reducible rfl) ?_; rintro e w8 ⟨rfl, hL8, hk8⟩; (have HL8 : Hid (LfQ B lp g p nv mv s (sKeepQ t (sKeepQ t Qk m (-9223372036854775807) q1) m u1 9223372036854775807) w8) := hL8); (have HK8 : Hid (Kq B wq w8) := HK7.out.trans hk8); clear hL8 hk8))
      go_wp2_with fail
      go_roundw
      case rel => exact ⟨k + 1, by go_num, hkn2, (by show LfQ _ _ _ _ _ _ _ _ _; rw [HN2.out]; exact HL8.out), HKr.out.trans HK8.out⟩
      case measure => simp [intOf]; omega
  · have hke : k = xs.length := by omega
    subst hke
    have HLf : Hid (LfQ B lp g p nv mv s (xs.foldl (grStep t D xs u1 q1) (sKeepQ t Q y cl ch)) wq) := by have := HLr.out; rw [List.take_length] at this; exact this
    go_wp2_with fail
    go_ret
    refine ⟨by rw [HRs.out]; rfl, (fun Q' h => ?_), HKz.out.trans HKr.out⟩
    rw [HRs.out] at h
    injection h with h
    rw [← h]
    exact HLf.out
end Go.Proofs.YtlcegpnnanhloaaGreatDoor

namespace Go.Proofs.YtlcegpnnanhloaaGreatDoor
open Go.RowKit

def maxQ (t : Bool) (D : List Dm) (c : Md.Cn) (Q : List Sq) : Option (List Sq) := greatQ t D c.y (c.xs.headD 0) c.xs Q
theorem headD_get {l : List Int} (h : 0 < l.length) : l.headD 0 = l[0] := by
  cases l with
  | nil => simp at h
  | cons a l => rfl
theorem MxC.of {N B : Nat} {a0 a1 a2 a3 a4 a5 a6 a7 a8 a9 : Value} {X w' : World} (h : X.heap[N]? = some (.cells #[a0, a1, a2, a3, a4, a5, a6, a7, a8, a9] 31 (0, 0))) (hk : Kq B X w') : w'.cell? ⟨N, 6, none⟩ = some a6 ∧ w'.cell? ⟨N, 7, none⟩ = some a7 := by
  have h := hk.block h (by decide) (by decide)
  exact ⟨cell_of h 6, cell_of h 7⟩

set_option maxRecDepth 10000 in
set_option maxHeartbeats 2000000 in
theorem max_any (B lp g p : Nat) (nv mv : Value) (s : St) (Q : List Sq) (w : World) (h : LfQ B lp g p nv mv s Q w) (c : Md.Cn) (vt vx vb vr : Value) (hC : CnK B w c vt vx vb vr) (hy : 0 ≤ c.y ∧ c.y < (s.now.length : Int)) (hx : ∀ x ∈ c.xs, 0 ≤ x ∧ x < (s.now.length : Int)) (hl : c.xs.length ≤ 64) (hp : 0 < c.xs.length) : Calls Tryz.prog 48 #[.pointer (some ⟨lp, 0, none⟩), cnVal c vt vx vb vr] w (RlOut B lp g p nv mv s (maxQ false s.now c Q) w) := by
  have hBs := h.size
  obtain ⟨y, hye, hyn⟩ : ∃ y : Nat, c.y = (y : Int) ∧ y < s.now.length := ⟨c.y.toNat, by omega, by omega⟩
  obtain ⟨W, hW⟩ : ∃ W, w.alloc (.cells #[.int .i64 c.kind, .int .i64 c.op, vt, .int .i64 c.k, .int .i64 c.v, .int .i64 c.x, .int .i64 (y : Int), vx, vb, vr] 31) = W := ⟨_, rfl⟩
  have hb0 : Below w.heap.size w W := by rw [← hW]; exact (Below.refl _ _).alloc (Nat.le_refl _) _
  have g0 : W.heap[w.heap.size]? = some (.cells #[.int .i64 c.kind, .int .i64 c.op, vt, .int .i64 c.k, .int .i64 c.v, .int .i64 c.x, .int .i64 (y : Int), vx, vb, vr] 31 (0, 0)) := by rw [← hW]; exact heap_alloc_new w _
  have HBs : Hid (B ≤ W.heap.size) := Nat.le_trans hBs hb0.size
  have HLW : Hid (LfQ B lp g p nv mv s Q W) := h.below hb0
  have HKW : Hid (Kq B w W) := Kq.of_below hb0 hBs
  have HG : Hid (∀ w', Kq B W w' → w'.cell? ⟨w.heap.size, 6, none⟩ = some (.int .i64 (y : Int)) ∧ w'.cell? ⟨w.heap.size, 7, none⟩ = some vx) := fun w' hk => MxC.of g0 hk
  have HIx : Hid (IntsK B W vx c.xs) := hC.xs.kq HKW.out
  have HU : Hid (∀ w', Calls Tryz.prog 79 #[.pointer (some ⟨lp, 0, none⟩)] w' fun e w2 => e = .returned (.agg #[.pointer (some ⟨lp, 0, none⟩), .bool false]) ∧ Below w'.heap.size w' w2) := fun w' => upright_any lp w'
  have HGr : Hid (∀ w', Below W.heap.size W w' → Calls Tryz.prog 89 #[.agg #[.pointer (some ⟨lp, 0, none⟩), .bool false], .int .i64 (y : Int), vx] w' (RlOut B lp g p nv mv s (maxQ false s.now c Q) w')) := fun w' hb => by
    have := great_any B lp g p nv mv s Q false w' (HLW.out.below hb) vx c.xs (HIx.out.kq (Kq.of_below hb HBs.out)) hx hl hp y hyn
    have he : maxQ false s.now c Q = greatQ false s.now (y : Int) c.xs[0] c.xs Q := by unfold maxQ; rw [hye, headD_get hp]
    rw [he]
    exact this
  obtain ⟨R, hR⟩ : ∃ R, maxQ false s.now c Q = R := ⟨_, rfl⟩
  rw [hR] at HGr ⊢
  have hcv : cnVal c vt vx vb vr = .agg #[.int .i64 c.kind, .int .i64 c.op, vt, .int .i64 c.k, .int .i64 c.v, .int .i64 c.x, .int .i64 (y : Int), vx, vb, vr] := by unfold cnVal; rw [hye]
  rw [hcv]
  clear h hC hy hx hl hp hBs hb0 g0 hye hyn hR hcv HIx
  have HKd : Hid (Below W.heap.size W W.drew) := (Below.refl _ _).drew
  go_enter Tryz.func48, Tryz.ntmps48
  go_wp2_with fail
  go_region_held3 (fun w' => w'.cell? ⟨w.heap.size, 6, none⟩ = some (.int .i64 (y : Int)) ∧ w'.cell? ⟨w.heap.size, 7, none⟩ = some vx)
    (first | exact HG.out _ HK5.out | exact HG.out _ (Kq.of_below HB4.out HBs.out) | exact HG.out _ (Kq.of_below HKd.out HBs.out))
    (first | (go_at_call 79; refine calls_at (HU.out _) (by with_reducible rfl) (by with_reducible rfl) ?_; rintro e w4 ⟨rfl, hb4⟩; (have HB4 : Hid (Below W.heap.size W w4) := bl_next HKd.out hb4); clear hb4) | (go_at_call 89; refine calls_at (HGr.out _ HB4.out) (by with_reducible rfl) (by with_reducible rfl) ?_; rintro e w5 ⟨rfl, hq5, hk5⟩; (have HQ5 : Hid (∀ Q', R = some Q' → LfQ B lp g p nv mv s Q' w5) := hq5); (have HK5 : Hid (Kq B W w5) := (Kq.of_below HB4.out HBs.out).trans hk5); clear hq5 hk5))
  go_wp2_with fail
  go_ret
  exact ⟨rfl, HQ5.out, HKW.out.trans HK5.out⟩

set_option maxRecDepth 10000 in
set_option maxHeartbeats 2000000 in
theorem min_any (B lp g p : Nat) (nv mv : Value) (s : St) (Q : List Sq) (w : World) (h : LfQ B lp g p nv mv s Q w) (c : Md.Cn) (vt vx vb vr : Value) (hC : CnK B w c vt vx vb vr) (hy : 0 ≤ c.y ∧ c.y < (s.now.length : Int)) (hx : ∀ x ∈ c.xs, 0 ≤ x ∧ x < (s.now.length : Int)) (hl : c.xs.length ≤ 64) (hp : 0 < c.xs.length) : Calls Tryz.prog 49 #[.pointer (some ⟨lp, 0, none⟩), cnVal c vt vx vb vr] w (RlOut B lp g p nv mv s (maxQ true s.now c Q) w) := by
  have hBs := h.size
  obtain ⟨y, hye, hyn⟩ : ∃ y : Nat, c.y = (y : Int) ∧ y < s.now.length := ⟨c.y.toNat, by omega, by omega⟩
  obtain ⟨W, hW⟩ : ∃ W, w.alloc (.cells #[.int .i64 c.kind, .int .i64 c.op, vt, .int .i64 c.k, .int .i64 c.v, .int .i64 c.x, .int .i64 (y : Int), vx, vb, vr] 31) = W := ⟨_, rfl⟩
  have hb0 : Below w.heap.size w W := by rw [← hW]; exact (Below.refl _ _).alloc (Nat.le_refl _) _
  have g0 : W.heap[w.heap.size]? = some (.cells #[.int .i64 c.kind, .int .i64 c.op, vt, .int .i64 c.k, .int .i64 c.v, .int .i64 c.x, .int .i64 (y : Int), vx, vb, vr] 31 (0, 0)) := by rw [← hW]; exact heap_alloc_new w _
  have HBs : Hid (B ≤ W.heap.size) := Nat.le_trans hBs hb0.size
  have HLW : Hid (LfQ B lp g p nv mv s Q W) := h.below hb0
  have HKW : Hid (Kq B w W) := Kq.of_below hb0 hBs
  have HG : Hid (∀ w', Kq B W w' → w'.cell? ⟨w.heap.size, 6, none⟩ = some (.int .i64 (y : Int)) ∧ w'.cell? ⟨w.heap.size, 7, none⟩ = some vx) := fun w' hk => MxC.of g0 hk
  have HIx : Hid (IntsK B W vx c.xs) := hC.xs.kq HKW.out
  have HU : Hid (∀ w', Calls Tryz.prog 81 #[.pointer (some ⟨lp, 0, none⟩)] w' fun e w2 => e = .returned (.agg #[.pointer (some ⟨lp, 0, none⟩), .bool true]) ∧ Below w'.heap.size w' w2) := fun w' => turnedL_any lp w'
  have HGr : Hid (∀ w', Below W.heap.size W w' → Calls Tryz.prog 89 #[.agg #[.pointer (some ⟨lp, 0, none⟩), .bool true], .int .i64 (y : Int), vx] w' (RlOut B lp g p nv mv s (maxQ true s.now c Q) w')) := fun w' hb => by
    have := great_any B lp g p nv mv s Q true w' (HLW.out.below hb) vx c.xs (HIx.out.kq (Kq.of_below hb HBs.out)) hx hl hp y hyn
    have he : maxQ true s.now c Q = greatQ true s.now (y : Int) c.xs[0] c.xs Q := by unfold maxQ; rw [hye, headD_get hp]
    rw [he]
    exact this
  obtain ⟨R, hR⟩ : ∃ R, maxQ true s.now c Q = R := ⟨_, rfl⟩
  rw [hR] at HGr ⊢
  have hcv : cnVal c vt vx vb vr = .agg #[.int .i64 c.kind, .int .i64 c.op, vt, .int .i64 c.k, .int .i64 c.v, .int .i64 c.x, .int .i64 (y : Int), vx, vb, vr] := by unfold cnVal; rw [hye]
  rw [hcv]
  clear h hC hy hx hl hp hBs hb0 g0 hye hyn hR hcv HIx
  have HKd : Hid (Below W.heap.size W W.drew) := (Below.refl _ _).drew
  go_enter Tryz.func49, Tryz.ntmps49
  go_wp2_with fail
  go_region_held3 (fun w' => w'.cell? ⟨w.heap.size, 6, none⟩ = some (.int .i64 (y : Int)) ∧ w'.cell? ⟨w.heap.size, 7, none⟩ = some vx)
    (first | exact HG.out _ HK5.out | exact HG.out _ (Kq.of_below HB4.out HBs.out) | exact HG.out _ (Kq.of_below HKd.out HBs.out))
    (first | (go_at_call 81; refine calls_at (HU.out _) (by with_reducible rfl) (by with_reducible rfl) ?_; rintro e w4 ⟨rfl, hb4⟩; (have HB4 : Hid (Below W.heap.size W w4) := bl_next HKd.out hb4); clear hb4) | (go_at_call 89; refine calls_at (HGr.out _ HB4.out) (by with_reducible rfl) (by with_reducible rfl) ?_; rintro e w5 ⟨rfl, hq5, hk5⟩; (have HQ5 : Hid (∀ Q', R = some Q' → LfQ B lp g p nv mv s Q' w5) := hq5); (have HK5 : Hid (Kq B W w5) := (Kq.of_below HB4.out HBs.out).trans hk5); clear hq5 hk5))
  go_wp2_with fail
  go_ret
  exact ⟨rfl, HQ5.out, HKW.out.trans HK5.out⟩
end Go.Proofs.YtlcegpnnanhloaaGreatDoor
