/-
  counts.
-/
import Derived.Test.YtmhfabnpfkkbcaaMdLists
import Derived.Test.YtmhfabnpfkkbcaaMdHolds
import Derived.Test.YtmhfabnpfkkbcaaMdV4
import Derived.Deep.RegionHeld3
import Derived.Deep.CutRange
import Derived.Test.YtmhfabnpfkkbcaaMdReg
namespace Go.Proofs.Ytmhfabnpfkkbcaa
open Go.RowKit

theorem ten_next {w1 w2 : World} {N : Nat} {a0 a1 a2 a3 a4 a5 a6 a7 a8 a9 : Value} (h : w1.cell? ⟨N, 0, none⟩ = some a0 ∧ w1.cell? ⟨N, 1, none⟩ = some a1 ∧ w1.cell? ⟨N, 2, none⟩ = some a2 ∧ w1.cell? ⟨N, 3, none⟩ = some a3 ∧ w1.cell? ⟨N, 4, none⟩ = some a4 ∧ w1.cell? ⟨N, 5, none⟩ = some a5 ∧ w1.cell? ⟨N, 6, none⟩ = some a6 ∧ w1.cell? ⟨N, 7, none⟩ = some a7 ∧ w1.cell? ⟨N, 8, none⟩ = some a8 ∧ w1.cell? ⟨N, 9, none⟩ = some a9) (hb : Below w1.heap.size w1 w2) : w2.cell? ⟨N, 0, none⟩ = some a0 ∧ w2.cell? ⟨N, 1, none⟩ = some a1 ∧ w2.cell? ⟨N, 2, none⟩ = some a2 ∧ w2.cell? ⟨N, 3, none⟩ = some a3 ∧ w2.cell? ⟨N, 4, none⟩ = some a4 ∧ w2.cell? ⟨N, 5, none⟩ = some a5 ∧ w2.cell? ⟨N, 6, none⟩ = some a6 ∧ w2.cell? ⟨N, 7, none⟩ = some a7 ∧ w2.cell? ⟨N, 8, none⟩ = some a8 ∧ w2.cell? ⟨N, 9, none⟩ = some a9 :=
  ⟨one_next hb h.1, one_next hb h.2.1, one_next hb h.2.2.1, one_next hb h.2.2.2.1, one_next hb h.2.2.2.2.1, one_next hb h.2.2.2.2.2.1, one_next hb h.2.2.2.2.2.2.1, one_next hb h.2.2.2.2.2.2.2.1, one_next hb h.2.2.2.2.2.2.2.2.1, one_next hb h.2.2.2.2.2.2.2.2.2⟩
theorem nal (w : World) (o : Obj) : Below w.heap.size w (w.alloc o) := (Below.refl _ _).alloc (Nat.le_refl _) _

/-- The five boxes. -/
structure S4 (N x1 x2 x3 x4 : Nat) (CN C1 C2 C3 CA : Array Value) (Vb w' : World) : Prop where
  n : w'.heap[N]? = some (.cells CN 40 (0, 0))
  b1 : w'.heap[x1]? = some (.cells C1 40 (0, 0))
  b2 : w'.heap[x2]? = some (.cells C2 40 (0, 0))
  b3 : w'.heap[x3]? = some (.cells C3 40 (0, 0))
  b4 : w'.heap[x4]? = some (.cells CA 40 (0, 0))
  b : Below Vb.heap.size Vb w'
theorem S4.next {N x1 x2 x3 x4 : Nat} {CN C1 C2 C3 CA : Array Value} {Vb w1 w2 : World} (h : S4 N x1 x2 x3 x4 CN C1 C2 C3 CA Vb w1) (hb : Below w1.heap.size w1 w2) : S4 N x1 x2 x3 x4 CN C1 C2 C3 CA Vb w2 :=
  ⟨(hb.block _ (Array.getElem?_eq_some_iff.1 h.n).1).trans h.n, (hb.block _ (Array.getElem?_eq_some_iff.1 h.b1).1).trans h.b1, (hb.block _ (Array.getElem?_eq_some_iff.1 h.b2).1).trans h.b2, (hb.block _ (Array.getElem?_eq_some_iff.1 h.b3).1).trans h.b3, (hb.block _ (Array.getElem?_eq_some_iff.1 h.b4).1).trans h.b4, h.b.trans (hb.mono h.b.size)⟩
theorem S4.c7 {N x1 x2 x3 x4 : Nat} {a0 a1 a2 a3 a4 a5 a6 a7 a8 a9 : Value} {C1 C2 C3 CA : Array Value} {Vb w1 : World} (h : S4 N x1 x2 x3 x4 #[a0, a1, a2, a3, a4, a5, a6, a7, a8, a9] C1 C2 C3 CA Vb w1) : w1.cell? ⟨N, 7, none⟩ = some a7 := (box10 h.n).1.2.2.2.2.2.2.2.1
theorem four_blocks (W : World) (o : Obj) (x : Nat) (hx : W.heap.size ≤ x ∧ x < W.heap.size + 4) : ((((W.alloc o).alloc o).alloc o).alloc o).drew.heap[x]? = some o := by
  have key : ∀ (w : World) (y : Nat), (w.alloc o).heap[y]? = if y = w.heap.size then some o else w.heap[y]? := fun w y => by
    by_cases h : y = w.heap.size
    · rw [if_pos h, h]; exact heap_alloc_new w o
    · rw [if_neg h]
      rcases Nat.lt_or_ge y w.heap.size with h1 | h1
      · exact Below.heap_alloc w o y h1
      · rw [Array.getElem?_eq_none (by simp; omega), Array.getElem?_eq_none h1]
  show ((((W.alloc o).alloc o).alloc o).alloc o).heap[x]? = some o
  rw [key, key, key, key]
  simp only [World.size_alloc]
  rcases (show x = W.heap.size ∨ x = W.heap.size + 1 ∨ x = W.heap.size + 1 + 1 ∨ x = W.heap.size + 1 + 1 + 1 by omega) with h | h | h | h <;> simp [h]
theorem four_below (W : World) (o : Obj) : Below W.heap.size W ((((W.alloc o).alloc o).alloc o).alloc o).drew :=
  (((((Below.refl _ _).alloc (Nat.le_refl _) _).alloc (by simp) _).alloc (by simp; omega) _).alloc (by simp; omega) _).drew

set_option maxRecDepth 10000 in
set_option maxHeartbeats 4000000 in
theorem counts_any (c : Md.Cn) (vt vx vb vr vq : Value) (l : List Int) (w : World) (hC : CnAt w c vt vx vb vr) (hq : IntsAt w vq l) (hk : c.kind = 9) (hl : c.xs.length ≤ 1000000000) : Calls Try.prog 16 #[cnVal c vt vx vb vr, vq] w fun e w' => e = .returned (.bool true) ∧ Below w.heap.size w w' := by
  obtain ⟨ta, tc, rfl, _⟩ := hC.t.form
  obtain ⟨xa, xc, rfl, _⟩ := hC.x.form
  obtain ⟨ba, bc, rfl, _⟩ := hC.b.form
  obtain ⟨ra, rc, rfl, _⟩ := hC.r.form
  obtain ⟨qa, qc, rfl, _⟩ := hq.form
  obtain ⟨W, hW⟩ : ∃ W, w.alloc (.cells #[.int .i64 c.kind, .int .i64 c.op, .slice ta c.terms.length tc, .int .i64 c.k, .int .i64 c.v, .int .i64 c.x, .int .i64 c.y, .slice xa c.xs.length xc, .slice ba c.table.length bc, .slice ra c.rows.length rc] 40) = W := ⟨_, rfl⟩
  have hbW : Below w.heap.size w W := by rw [← hW]; exact (Below.refl _ _).alloc (Nat.le_refl _) _
  have hN : W.heap[w.heap.size]? = some (.cells #[.int .i64 c.kind, .int .i64 c.op, .slice ta c.terms.length tc, .int .i64 c.k, .int .i64 c.v, .int .i64 c.x, .int .i64 c.y, .slice xa c.xs.length xc, .slice ba c.table.length bc, .slice ra c.rows.length rc] 40) := by rw [← hW]; exact heap_alloc_new w _
  have HB : Hid (Below w.heap.size w W) := hbW
  have HN : Hid (W.heap[w.heap.size]? = some (.cells #[.int .i64 c.kind, .int .i64 c.op, .slice ta c.terms.length tc, .int .i64 c.k, .int .i64 c.v, .int .i64 c.x, .int .i64 c.y, .slice xa c.xs.length xc, .slice ba c.table.length bc, .slice ra c.rows.length rc] 40)) := hN
  have HCc : Hid (∀ w', Below w.heap.size w w' → CnAt w' c (.slice ta c.terms.length tc) (.slice xa c.xs.length xc) (.slice ba c.table.length bc) (.slice ra c.rows.length rc)) := fun w' hb => hC.below hb
  have HX : Hid (∀ w', Below w.heap.size w w' → IntsAt w' (.slice qa l.length qc) l) := fun w' hb => hq.below hb
  have HS : Hid (W.cell? ⟨w.heap.size, 0, none⟩ = some (.int .i64 c.kind) ∧ W.cell? ⟨w.heap.size, 1, none⟩ = some (.int .i64 c.op) ∧ W.cell? ⟨w.heap.size, 2, none⟩ = some (.slice ta c.terms.length tc) ∧ W.cell? ⟨w.heap.size, 3, none⟩ = some (.int .i64 c.k) ∧ W.cell? ⟨w.heap.size, 4, none⟩ = some (.int .i64 c.v) ∧ W.cell? ⟨w.heap.size, 5, none⟩ = some (.int .i64 c.x) ∧ W.cell? ⟨w.heap.size, 6, none⟩ = some (.int .i64 c.y) ∧ W.cell? ⟨w.heap.size, 7, none⟩ = some (.slice xa c.xs.length xc) ∧ W.cell? ⟨w.heap.size, 8, none⟩ = some (.slice ba c.table.length bc) ∧ W.cell? ⟨w.heap.size, 9, none⟩ = some (.slice ra c.rows.length rc)) := (box10 hN).1
  unfold cnVal
  have HK : Hid (c.kind = 9) := hk
  clear hC hq hbW hN hk
  go_enter Try.func16, Try.ntmps16
  go_wp2_with fail
  clear hW
  obtain ⟨W4, hW4⟩ : ∃ W4, ((((W.alloc (.cells #[.int .i64 c.kind, .int .i64 c.op, .slice ta c.terms.length tc, .int .i64 c.k, .int .i64 c.v, .int .i64 c.x, .int .i64 c.y, .slice xa c.xs.length xc, .slice ba c.table.length bc, .slice ra c.rows.length rc] 40)).alloc (.cells #[.int .i64 c.kind, .int .i64 c.op, .slice ta c.terms.length tc, .int .i64 c.k, .int .i64 c.v, .int .i64 c.x, .int .i64 c.y, .slice xa c.xs.length xc, .slice ba c.table.length bc, .slice ra c.rows.length rc] 40)).alloc (.cells #[.int .i64 c.kind, .int .i64 c.op, .slice ta c.terms.length tc, .int .i64 c.k, .int .i64 c.v, .int .i64 c.x, .int .i64 c.y, .slice xa c.xs.length xc, .slice ba c.table.length bc, .slice ra c.rows.length rc] 40)).alloc (.cells #[.int .i64 c.kind, .int .i64 c.op, .slice ta c.terms.length tc, .int .i64 c.k, .int .i64 c.v, .int .i64 c.x, .int .i64 c.y, .slice xa c.xs.length xc, .slice ba c.table.length bc, .slice ra c.rows.length rc] 40)).drew = W4 := ⟨_, rfl⟩
  have HS4 : Hid (W4.cell? ⟨w.heap.size, 0, none⟩ = some (.int .i64 c.kind) ∧ W4.cell? ⟨w.heap.size, 1, none⟩ = some (.int .i64 c.op) ∧ W4.cell? ⟨w.heap.size, 2, none⟩ = some (.slice ta c.terms.length tc) ∧ W4.cell? ⟨w.heap.size, 3, none⟩ = some (.int .i64 c.k) ∧ W4.cell? ⟨w.heap.size, 4, none⟩ = some (.int .i64 c.v) ∧ W4.cell? ⟨w.heap.size, 5, none⟩ = some (.int .i64 c.x) ∧ W4.cell? ⟨w.heap.size, 6, none⟩ = some (.int .i64 c.y) ∧ W4.cell? ⟨w.heap.size, 7, none⟩ = some (.slice xa c.xs.length xc) ∧ W4.cell? ⟨w.heap.size, 8, none⟩ = some (.slice ba c.table.length bc) ∧ W4.cell? ⟨w.heap.size, 9, none⟩ = some (.slice ra c.rows.length rc)) := by
    rw [← hW4]
    exact ten_next (ten_next (ten_next (ten_next HS.out (nal _ _)) (nal _ _)) (nal _ _)) (nal _ _).drew
  go_cut [5, 6, 7, 8] from 9 to 64 (fun s5 s6 s7 s8 wx => ∃ x1 x2 x3 x4 : Nat, s5 = .pointer (some ⟨x1, 0, none⟩) ∧ s6 = .pointer (some ⟨x2, 0, none⟩) ∧ s7 = .pointer (some ⟨x3, 0, none⟩) ∧ s8 = .pointer (some ⟨x4, 0, none⟩) ∧ (x1 ≠ x2 ∧ x1 ≠ x3 ∧ x1 ≠ x4 ∧ x2 ≠ x3 ∧ x2 ≠ x4 ∧ x3 ≠ x4) ∧ (∀ x, (x = x1 ∨ x = x2 ∨ x = x3 ∨ x = x4) → W.heap.size ≤ x ∧ x < W.heap.size + 4) ∧ W4 = wx)
  case first =>
    go_region_held3 (fun w' => w'.cell? ⟨w.heap.size, 0, none⟩ = some (.int .i64 c.kind) ∧ w'.cell? ⟨w.heap.size, 1, none⟩ = some (.int .i64 c.op) ∧ w'.cell? ⟨w.heap.size, 2, none⟩ = some (.slice ta c.terms.length tc) ∧ w'.cell? ⟨w.heap.size, 3, none⟩ = some (.int .i64 c.k) ∧ w'.cell? ⟨w.heap.size, 4, none⟩ = some (.int .i64 c.v) ∧ w'.cell? ⟨w.heap.size, 5, none⟩ = some (.int .i64 c.x) ∧ w'.cell? ⟨w.heap.size, 6, none⟩ = some (.int .i64 c.y) ∧ w'.cell? ⟨w.heap.size, 7, none⟩ = some (.slice xa c.xs.length xc) ∧ w'.cell? ⟨w.heap.size, 8, none⟩ = some (.slice ba c.table.length bc) ∧ w'.cell? ⟨w.heap.size, 9, none⟩ = some (.slice ra c.rows.length rc))
      (first | exact HS4.out | exact ten_next HS.out (Below.refl _ _).drew | exact ten_next HS.out (nal _ _).drew | exact ten_next (ten_next HS.out (nal _ _)) (nal _ _).drew | exact ten_next (ten_next (ten_next HS.out (nal _ _)) (nal _ _)) (nal _ _).drew | exact ten_next (ten_next (ten_next (ten_next HS.out (nal _ _)) (nal _ _)) (nal _ _)) (nal _ _).drew)
      (first | (fail))
    all_goals
      go_wp2_with fail
      go_meet
      refine ⟨_, _, _, _, rfl, rfl, rfl, rfl, ⟨?_, ?_, ?_, ?_, ?_, ?_⟩, ?_, rfl⟩
      all_goals first | omega | (intro x hx; omega)
  case rest =>
    obtain ⟨x1, x2, x3, x4, rfl, rfl, rfl, rfl, ⟨n12, n13, n14, n23, n24, n34⟩, hr, rfl⟩ := hcut
    have r1 := hr x1 (.inl rfl)
    have r2 := hr x2 (.inr (.inl rfl))
    have r3 := hr x3 (.inr (.inr (.inl rfl)))
    have r4 := hr x4 (.inr (.inr (.inr rfl)))
    have hNl : w.heap.size < W.heap.size := (Array.getElem?_eq_some_iff.1 HN.out).1
    have hk4 : ∀ x, W.heap.size ≤ x ∧ x < W.heap.size + 4 → W4.heap[x]? = some (.cells #[.int .i64 c.kind, .int .i64 c.op, .slice ta c.terms.length tc, .int .i64 c.k, .int .i64 c.v, .int .i64 c.x, .int .i64 c.y, .slice xa c.xs.length xc, .slice ba c.table.length bc, .slice ra c.rows.length rc] 40) := by
      intro x hx
      rw [← hW4]
      exact four_blocks W _ x hx
    have hbW4 : Below W.heap.size W W4 := by
      rw [← hW4]
      exact four_below W _
    have b1 := hk4 x1 r1
    have b2 := hk4 x2 r2
    have b3 := hk4 x3 r3
    have b4 := hk4 x4 r4
    have bn : W4.heap[w.heap.size]? = some (.cells #[.int .i64 c.kind, .int .i64 c.op, .slice ta c.terms.length tc, .int .i64 c.k, .int .i64 c.v, .int .i64 c.x, .int .i64 c.y, .slice xa c.xs.length xc, .slice ba c.table.length bc, .slice ra c.rows.length rc] 40) := (hbW4.block _ hNl).trans HN.out
    obtain ⟨V, hV⟩ : ∃ V, (((W4.setCell ⟨x1, 1, none⟩ (.int .i64 1)).setCell ⟨x2, 1, none⟩ (.int .i64 2)).setCell ⟨x3, 1, none⟩ (.int .i64 3)) = V := ⟨_, rfl⟩
    obtain ⟨V5, hV5⟩ : ∃ V5, ((V.setCell ⟨x4, 1, none⟩ (.int .i64 1)).setCell ⟨x4, 3, none⟩ (.int .i64 (c.xs.length : Int))).drew = V5 := ⟨_, rfl⟩
    have e1 : V.heap[x1]? = some (.cells #[.int .i64 c.kind, .int .i64 1, .slice ta c.terms.length tc, .int .i64 c.k, .int .i64 c.v, .int .i64 c.x, .int .i64 c.y, .slice xa c.xs.length xc, .slice ba c.table.length bc, .slice ra c.rows.length rc] 40) := by
      rw [← hV, heap_setCell_other _ ⟨x3, 1, none⟩ x1 _ n13, heap_setCell_other _ ⟨x2, 1, none⟩ x1 _ n12]
      exact heap_setCell_same W4 x1 1 _ 40 _ b1
    have e2 : V.heap[x2]? = some (.cells #[.int .i64 c.kind, .int .i64 2, .slice ta c.terms.length tc, .int .i64 c.k, .int .i64 c.v, .int .i64 c.x, .int .i64 c.y, .slice xa c.xs.length xc, .slice ba c.table.length bc, .slice ra c.rows.length rc] 40) := by
      rw [← hV, heap_setCell_other _ ⟨x3, 1, none⟩ x2 _ n23]
      exact heap_setCell_same _ x2 1 _ 40 _ ((heap_setCell_other W4 ⟨x1, 1, none⟩ x2 _ (Ne.symm n12)).trans b2)
    have e3 : V.heap[x3]? = some (.cells #[.int .i64 c.kind, .int .i64 3, .slice ta c.terms.length tc, .int .i64 c.k, .int .i64 c.v, .int .i64 c.x, .int .i64 c.y, .slice xa c.xs.length xc, .slice ba c.table.length bc, .slice ra c.rows.length rc] 40) := by
      rw [← hV]
      exact heap_setCell_same _ x3 1 _ 40 _ ((heap_setCell_other _ ⟨x2, 1, none⟩ x3 _ (Ne.symm n23)).trans ((heap_setCell_other W4 ⟨x1, 1, none⟩ x3 _ (Ne.symm n13)).trans b3))
    have e4 : V.heap[x4]? = some (.cells #[.int .i64 c.kind, .int .i64 c.op, .slice ta c.terms.length tc, .int .i64 c.k, .int .i64 c.v, .int .i64 c.x, .int .i64 c.y, .slice xa c.xs.length xc, .slice ba c.table.length bc, .slice ra c.rows.length rc] 40) := by
      rw [← hV]
      exact (heap_setCell_other _ ⟨x3, 1, none⟩ x4 _ (Ne.symm n34)).trans ((heap_setCell_other _ ⟨x2, 1, none⟩ x4 _ (Ne.symm n24)).trans ((heap_setCell_other W4 ⟨x1, 1, none⟩ x4 _ (Ne.symm n14)).trans b4))
    have en : V.heap[w.heap.size]? = some (.cells #[.int .i64 c.kind, .int .i64 c.op, .slice ta c.terms.length tc, .int .i64 c.k, .int .i64 c.v, .int .i64 c.x, .int .i64 c.y, .slice xa c.xs.length xc, .slice ba c.table.length bc, .slice ra c.rows.length rc] 40) := by
      rw [← hV]
      exact (heap_setCell_other _ ⟨x3, 1, none⟩ _ _ (by show w.heap.size ≠ x3; omega)).trans ((heap_setCell_other _ ⟨x2, 1, none⟩ _ _ (by show w.heap.size ≠ x2; omega)).trans ((heap_setCell_other W4 ⟨x1, 1, none⟩ _ _ (by show w.heap.size ≠ x1; omega)).trans bn))
    have hbV : Below W.heap.size W V := by
      rw [← hV]
      exact ((hbW4.setCell r1.1 _).setCell r2.1 _).setCell r3.1 _
    have HS5 : Hid ((S4 w.heap.size x1 x2 x3 x4 (#[.int .i64 c.kind, .int .i64 c.op, .slice ta c.terms.length tc, .int .i64 c.k, .int .i64 c.v, .int .i64 c.x, .int .i64 c.y, .slice xa c.xs.length xc, .slice ba c.table.length bc, .slice ra c.rows.length rc]) (#[.int .i64 c.kind, .int .i64 1, .slice ta c.terms.length tc, .int .i64 c.k, .int .i64 c.v, .int .i64 c.x, .int .i64 c.y, .slice xa c.xs.length xc, .slice ba c.table.length bc, .slice ra c.rows.length rc]) (#[.int .i64 c.kind, .int .i64 2, .slice ta c.terms.length tc, .int .i64 c.k, .int .i64 c.v, .int .i64 c.x, .int .i64 c.y, .slice xa c.xs.length xc, .slice ba c.table.length bc, .slice ra c.rows.length rc]) (#[.int .i64 c.kind, .int .i64 3, .slice ta c.terms.length tc, .int .i64 c.k, .int .i64 c.v, .int .i64 c.x, .int .i64 c.y, .slice xa c.xs.length xc, .slice ba c.table.length bc, .slice ra c.rows.length rc]) (#[.int .i64 c.kind, .int .i64 1, .slice ta c.terms.length tc, .int .i64 (c.xs.length : Int), .int .i64 c.v, .int .i64 c.x, .int .i64 c.y, .slice xa c.xs.length xc, .slice ba c.table.length bc, .slice ra c.rows.length rc]) V5) V5) := by
      show (S4 w.heap.size x1 x2 x3 x4 (#[.int .i64 c.kind, .int .i64 c.op, .slice ta c.terms.length tc, .int .i64 c.k, .int .i64 c.v, .int .i64 c.x, .int .i64 c.y, .slice xa c.xs.length xc, .slice ba c.table.length bc, .slice ra c.rows.length rc]) (#[.int .i64 c.kind, .int .i64 1, .slice ta c.terms.length tc, .int .i64 c.k, .int .i64 c.v, .int .i64 c.x, .int .i64 c.y, .slice xa c.xs.length xc, .slice ba c.table.length bc, .slice ra c.rows.length rc]) (#[.int .i64 c.kind, .int .i64 2, .slice ta c.terms.length tc, .int .i64 c.k, .int .i64 c.v, .int .i64 c.x, .int .i64 c.y, .slice xa c.xs.length xc, .slice ba c.table.length bc, .slice ra c.rows.length rc]) (#[.int .i64 c.kind, .int .i64 3, .slice ta c.terms.length tc, .int .i64 c.k, .int .i64 c.v, .int .i64 c.x, .int .i64 c.y, .slice xa c.xs.length xc, .slice ba c.table.length bc, .slice ra c.rows.length rc]) (#[.int .i64 c.kind, .int .i64 1, .slice ta c.terms.length tc, .int .i64 (c.xs.length : Int), .int .i64 c.v, .int .i64 c.x, .int .i64 c.y, .slice xa c.xs.length xc, .slice ba c.table.length bc, .slice ra c.rows.length rc]) V5) V5
      rw [← hV5]
      refine ⟨?_, ?_, ?_, ?_, ?_, Below.refl _ _⟩
      · exact (heap_setCell_other _ ⟨x4, 3, none⟩ _ _ (by show w.heap.size ≠ x4; omega)).trans ((heap_setCell_other _ ⟨x4, 1, none⟩ _ _ (by show w.heap.size ≠ x4; omega)).trans en)
      · exact (heap_setCell_other _ ⟨x4, 3, none⟩ _ _ n14).trans ((heap_setCell_other _ ⟨x4, 1, none⟩ _ _ n14).trans e1)
      · exact (heap_setCell_other _ ⟨x4, 3, none⟩ _ _ n24).trans ((heap_setCell_other _ ⟨x4, 1, none⟩ _ _ n24).trans e2)
      · exact (heap_setCell_other _ ⟨x4, 3, none⟩ _ _ n34).trans ((heap_setCell_other _ ⟨x4, 1, none⟩ _ _ n34).trans e3)
      · exact heap_setCell_same _ x4 3 _ 40 _ (heap_setCell_same V x4 1 _ 40 _ e4)
    have HB5 : Hid (Below w.heap.size w V5) := by
      show Below _ _ _
      rw [← hV5]
      exact HB.out.trans ((((hbV.setCell r4.1 _).setCell r4.1 _).drew).mono HB.out.size)
    have HBb : Hid (∀ {w'}, Below V5.heap.size V5 w' → Below w.heap.size w w') := fun hb => HB5.out.trans (hb.mono HB5.out.size)
    obtain ⟨⟨_, k1, _⟩, z1⟩ := box10 b1
    obtain ⟨⟨_, k2, _⟩, z2⟩ := box10 b2
    obtain ⟨⟨_, k3, _⟩, z3⟩ := box10 b3
    obtain ⟨⟨_, k41, _, k43, _⟩, z4⟩ := box10 e4
    obtain ⟨⟨_, _, _, _, _, _, _, v7, _, _⟩, _⟩ := box10 en
    have z11 := z1 1
    have z21 := z2 1
    have z31 := z3 1
    have z41 := z4 1
    have z43 := z4 3
    have n4N : x4 ≠ w.heap.size := by omega
    clear z1 z2 z3 z4 e1 e2 e3 e4 en hbV b1 b2 b3 b4 bn hbW4 hk4 hr HS HS4 hW4 r1 r2 r3 r4 hNl HN
    go_wp2_with fail
    clear k1 k2 k3 z11 z21 z31 hV
    go_region_held3 (fun w' => w'.cell? ⟨w.heap.size, 7, none⟩ = some (.slice xa c.xs.length xc))
      (first | exact one_next (Below.refl _ _).drew v7 | exact one_next (Below.refl _ _).drew ((World.cell?_setCell_far _ _ _ _ n4N).trans v7) | exact (one_next (Below.refl _ _).drew ((World.cell?_setCell_far _ _ _ _ n4N).trans ((World.cell?_setCell_far _ _ _ _ n4N).trans v7))) | exact S4.c7 HS5.out)
      (first | (fail))
    clear k41 k43 z41 z43 v7 n4N hV5
    have HL0 : Hid (∀ w', (S4 w.heap.size x1 x2 x3 x4 (#[.int .i64 c.kind, .int .i64 c.op, .slice ta c.terms.length tc, .int .i64 c.k, .int .i64 c.v, .int .i64 c.x, .int .i64 c.y, .slice xa c.xs.length xc, .slice ba c.table.length bc, .slice ra c.rows.length rc]) (#[.int .i64 c.kind, .int .i64 1, .slice ta c.terms.length tc, .int .i64 c.k, .int .i64 c.v, .int .i64 c.x, .int .i64 c.y, .slice xa c.xs.length xc, .slice ba c.table.length bc, .slice ra c.rows.length rc]) (#[.int .i64 c.kind, .int .i64 2, .slice ta c.terms.length tc, .int .i64 c.k, .int .i64 c.v, .int .i64 c.x, .int .i64 c.y, .slice xa c.xs.length xc, .slice ba c.table.length bc, .slice ra c.rows.length rc]) (#[.int .i64 c.kind, .int .i64 3, .slice ta c.terms.length tc, .int .i64 c.k, .int .i64 c.v, .int .i64 c.x, .int .i64 c.y, .slice xa c.xs.length xc, .slice ba c.table.length bc, .slice ra c.rows.length rc]) (#[.int .i64 c.kind, .int .i64 1, .slice ta c.terms.length tc, .int .i64 (c.xs.length : Int), .int .i64 c.v, .int .i64 c.x, .int .i64 c.y, .slice xa c.xs.length xc, .slice ba c.table.length bc, .slice ra c.rows.length rc]) V5) w' → Calls Try.prog 13 #[.agg #[.int .i64 c.kind, .int .i64 1, .slice ta c.terms.length tc, .int .i64 c.k, .int .i64 c.v, .int .i64 c.x, .int .i64 c.y, .slice xa c.xs.length xc, .slice ba c.table.length bc, .slice ra c.rows.length rc], .slice qa l.length qc] w' fun e w'' => e = .returned (.bool (Md.holds { c with op := 1 } l)) ∧ Below w'.heap.size w' w'') := fun w' hs => by
      have h0 := HCc.out w' (HBb.out hs.b)
      have h1 := Holds_any { c with op := 1 } _ _ _ _ _ l w' ⟨h0.t, h0.x, h0.xcap, h0.b, h0.r⟩ (HX.out w' (HBb.out hs.b))
      unfold cnVal at h1
      exact h1
    have HQ0 : Hid (∀ w', (S4 w.heap.size x1 x2 x3 x4 (#[.int .i64 c.kind, .int .i64 c.op, .slice ta c.terms.length tc, .int .i64 c.k, .int .i64 c.v, .int .i64 c.x, .int .i64 c.y, .slice xa c.xs.length xc, .slice ba c.table.length bc, .slice ra c.rows.length rc]) (#[.int .i64 c.kind, .int .i64 1, .slice ta c.terms.length tc, .int .i64 c.k, .int .i64 c.v, .int .i64 c.x, .int .i64 c.y, .slice xa c.xs.length xc, .slice ba c.table.length bc, .slice ra c.rows.length rc]) (#[.int .i64 c.kind, .int .i64 2, .slice ta c.terms.length tc, .int .i64 c.k, .int .i64 c.v, .int .i64 c.x, .int .i64 c.y, .slice xa c.xs.length xc, .slice ba c.table.length bc, .slice ra c.rows.length rc]) (#[.int .i64 c.kind, .int .i64 3, .slice ta c.terms.length tc, .int .i64 c.k, .int .i64 c.v, .int .i64 c.x, .int .i64 c.y, .slice xa c.xs.length xc, .slice ba c.table.length bc, .slice ra c.rows.length rc]) (#[.int .i64 c.kind, .int .i64 1, .slice ta c.terms.length tc, .int .i64 (c.xs.length : Int), .int .i64 c.v, .int .i64 c.x, .int .i64 c.y, .slice xa c.xs.length xc, .slice ba c.table.length bc, .slice ra c.rows.length rc]) V5) w' → Calls Try.prog 13 #[.agg #[.int .i64 c.kind, .int .i64 2, .slice ta c.terms.length tc, .int .i64 c.k, .int .i64 c.v, .int .i64 c.x, .int .i64 c.y, .slice xa c.xs.length xc, .slice ba c.table.length bc, .slice ra c.rows.length rc], .slice qa l.length qc] w' fun e w'' => e = .returned (.bool (Md.holds { c with op := 2 } l)) ∧ Below w'.heap.size w' w'') := fun w' hs => by
      have h0 := HCc.out w' (HBb.out hs.b)
      have h1 := Holds_any { c with op := 2 } _ _ _ _ _ l w' ⟨h0.t, h0.x, h0.xcap, h0.b, h0.r⟩ (HX.out w' (HBb.out hs.b))
      unfold cnVal at h1
      exact h1
    have HG0 : Hid (∀ w', (S4 w.heap.size x1 x2 x3 x4 (#[.int .i64 c.kind, .int .i64 c.op, .slice ta c.terms.length tc, .int .i64 c.k, .int .i64 c.v, .int .i64 c.x, .int .i64 c.y, .slice xa c.xs.length xc, .slice ba c.table.length bc, .slice ra c.rows.length rc]) (#[.int .i64 c.kind, .int .i64 1, .slice ta c.terms.length tc, .int .i64 c.k, .int .i64 c.v, .int .i64 c.x, .int .i64 c.y, .slice xa c.xs.length xc, .slice ba c.table.length bc, .slice ra c.rows.length rc]) (#[.int .i64 c.kind, .int .i64 2, .slice ta c.terms.length tc, .int .i64 c.k, .int .i64 c.v, .int .i64 c.x, .int .i64 c.y, .slice xa c.xs.length xc, .slice ba c.table.length bc, .slice ra c.rows.length rc]) (#[.int .i64 c.kind, .int .i64 3, .slice ta c.terms.length tc, .int .i64 c.k, .int .i64 c.v, .int .i64 c.x, .int .i64 c.y, .slice xa c.xs.length xc, .slice ba c.table.length bc, .slice ra c.rows.length rc]) (#[.int .i64 c.kind, .int .i64 1, .slice ta c.terms.length tc, .int .i64 (c.xs.length : Int), .int .i64 c.v, .int .i64 c.x, .int .i64 c.y, .slice xa c.xs.length xc, .slice ba c.table.length bc, .slice ra c.rows.length rc]) V5) w' → Calls Try.prog 13 #[.agg #[.int .i64 c.kind, .int .i64 3, .slice ta c.terms.length tc, .int .i64 c.k, .int .i64 c.v, .int .i64 c.x, .int .i64 c.y, .slice xa c.xs.length xc, .slice ba c.table.length bc, .slice ra c.rows.length rc], .slice qa l.length qc] w' fun e w'' => e = .returned (.bool (Md.holds { c with op := 3 } l)) ∧ Below w'.heap.size w' w'') := fun w' hs => by
      have h0 := HCc.out w' (HBb.out hs.b)
      have h1 := Holds_any { c with op := 3 } _ _ _ _ _ l w' ⟨h0.t, h0.x, h0.xcap, h0.b, h0.r⟩ (HX.out w' (HBb.out hs.b))
      unfold cnVal at h1
      exact h1
    have HA0 : Hid (∀ w', (S4 w.heap.size x1 x2 x3 x4 (#[.int .i64 c.kind, .int .i64 c.op, .slice ta c.terms.length tc, .int .i64 c.k, .int .i64 c.v, .int .i64 c.x, .int .i64 c.y, .slice xa c.xs.length xc, .slice ba c.table.length bc, .slice ra c.rows.length rc]) (#[.int .i64 c.kind, .int .i64 1, .slice ta c.terms.length tc, .int .i64 c.k, .int .i64 c.v, .int .i64 c.x, .int .i64 c.y, .slice xa c.xs.length xc, .slice ba c.table.length bc, .slice ra c.rows.length rc]) (#[.int .i64 c.kind, .int .i64 2, .slice ta c.terms.length tc, .int .i64 c.k, .int .i64 c.v, .int .i64 c.x, .int .i64 c.y, .slice xa c.xs.length xc, .slice ba c.table.length bc, .slice ra c.rows.length rc]) (#[.int .i64 c.kind, .int .i64 3, .slice ta c.terms.length tc, .int .i64 c.k, .int .i64 c.v, .int .i64 c.x, .int .i64 c.y, .slice xa c.xs.length xc, .slice ba c.table.length bc, .slice ra c.rows.length rc]) (#[.int .i64 c.kind, .int .i64 1, .slice ta c.terms.length tc, .int .i64 (c.xs.length : Int), .int .i64 c.v, .int .i64 c.x, .int .i64 c.y, .slice xa c.xs.length xc, .slice ba c.table.length bc, .slice ra c.rows.length rc]) V5) w' → Calls Try.prog 13 #[.agg #[.int .i64 c.kind, .int .i64 1, .slice ta c.terms.length tc, .int .i64 (c.xs.length : Int), .int .i64 c.v, .int .i64 c.x, .int .i64 c.y, .slice xa c.xs.length xc, .slice ba c.table.length bc, .slice ra c.rows.length rc], .slice qa l.length qc] w' fun e w'' => e = .returned (.bool (Md.holds { c with op := 1, k := (c.xs.length : Int) } l)) ∧ Below w'.heap.size w' w'') := fun w' hs => by
      have h0 := HCc.out w' (HBb.out hs.b)
      have h1 := Holds_any { c with op := 1, k := (c.xs.length : Int) } _ _ _ _ _ l w' ⟨h0.t, h0.x, h0.xcap, h0.b, h0.r⟩ (HX.out w' (HBb.out hs.b))
      unfold cnVal at h1
      exact h1
    go_upto_region 4 with fail
    go_cut [52] from 21 to 64 (fun s52 wx => s52 = .bool false ∧ Hid ((S4 w.heap.size x1 x2 x3 x4 (#[.int .i64 c.kind, .int .i64 c.op, .slice ta c.terms.length tc, .int .i64 c.k, .int .i64 c.v, .int .i64 c.x, .int .i64 c.y, .slice xa c.xs.length xc, .slice ba c.table.length bc, .slice ra c.rows.length rc]) (#[.int .i64 c.kind, .int .i64 1, .slice ta c.terms.length tc, .int .i64 c.k, .int .i64 c.v, .int .i64 c.x, .int .i64 c.y, .slice xa c.xs.length xc, .slice ba c.table.length bc, .slice ra c.rows.length rc]) (#[.int .i64 c.kind, .int .i64 2, .slice ta c.terms.length tc, .int .i64 c.k, .int .i64 c.v, .int .i64 c.x, .int .i64 c.y, .slice xa c.xs.length xc, .slice ba c.table.length bc, .slice ra c.rows.length rc]) (#[.int .i64 c.kind, .int .i64 3, .slice ta c.terms.length tc, .int .i64 c.k, .int .i64 c.v, .int .i64 c.x, .int .i64 c.y, .slice xa c.xs.length xc, .slice ba c.table.length bc, .slice ra c.rows.length rc]) (#[.int .i64 c.kind, .int .i64 1, .slice ta c.terms.length tc, .int .i64 (c.xs.length : Int), .int .i64 c.v, .int .i64 c.x, .int .i64 c.y, .slice xa c.xs.length xc, .slice ba c.table.length bc, .slice ra c.rows.length rc]) V5) wx))
    case first =>
      by_cases o1 : c.op < 1
      · have o1B : ¬ 1 ≤ c.op := by omega
        refine wp_region_T (S4 w.heap.size x1 x2 x3 x4 (#[.int .i64 c.kind, .int .i64 c.op, .slice ta c.terms.length tc, .int .i64 c.k, .int .i64 c.v, .int .i64 c.x, .int .i64 c.y, .slice xa c.xs.length xc, .slice ba c.table.length bc, .slice ra c.rows.length rc]) (#[.int .i64 c.kind, .int .i64 1, .slice ta c.terms.length tc, .int .i64 c.k, .int .i64 c.v, .int .i64 c.x, .int .i64 c.y, .slice xa c.xs.length xc, .slice ba c.table.length bc, .slice ra c.rows.length rc]) (#[.int .i64 c.kind, .int .i64 2, .slice ta c.terms.length tc, .int .i64 c.k, .int .i64 c.v, .int .i64 c.x, .int .i64 c.y, .slice xa c.xs.length xc, .slice ba c.table.length bc, .slice ra c.rows.length rc]) (#[.int .i64 c.kind, .int .i64 3, .slice ta c.terms.length tc, .int .i64 c.k, .int .i64 c.v, .int .i64 c.x, .int .i64 c.y, .slice xa c.xs.length xc, .slice ba c.table.length bc, .slice ra c.rows.length rc]) (#[.int .i64 c.kind, .int .i64 1, .slice ta c.terms.length tc, .int .i64 (c.xs.length : Int), .int .i64 c.v, .int .i64 c.x, .int .i64 c.y, .slice xa c.xs.length xc, .slice ba c.table.length bc, .slice ra c.rows.length rc]) V5) (fun _ => True) [] (by kernel_rfl) ⟨HS5.out.next (Below.refl _ _).drew, trivial⟩ (fun hHeld => ?_)
        refine wpAnyT_takeB (i := 0) (oi := ⟨some 21, .fieldAddr 40 (.tmp 2) 1, _, _, _, _⟩) (v := ?vR4x0a) rfl (by kernel_rfl) (by kernel_rfl) (by kernel_rfl) (by kernel_rfl) (fun _ _ _ h => h) (Or.inl ⟨by rfl, ?hyR4x0a⟩) (by assumption) ?restR4x0a
        case hyR4x0a => (intro w hSw; clear hSw; go_simp; try (with_reducible rfl))
        try simp only [Act.put, List.setIfInBounds_toArray, List.set_cons_zero, List.set_cons_succ]
        refine wpAnyT_takeB (i := 1) (oi := ⟨some 22, .load 3 (.tmp 21), _, _, _, _⟩) (v := ?vR4x1a) rfl (by kernel_rfl) (by kernel_rfl) (by kernel_rfl) (by kernel_rfl) (fun _ _ _ h => h) (Or.inl ⟨by rfl, ?hyR4x1a⟩) (by assumption) ?restR4x1a
        case hyR4x1a => (intro w hSw; obtain ⟨⟨p0, p1, p2, p3, p4, p5, p6, p7, p8, p9⟩, _⟩ := box10 hSw.n; go_simp; try (with_reducible rfl))
        try simp only [Act.put, List.setIfInBounds_toArray, List.set_cons_zero, List.set_cons_succ]
        refine wpAnyT_takeB (i := 2) (oi := ⟨some 23, .binOp .geq 3 (.tmp 22) ((.const (.int .i64 1))) 3, _, _, _, _⟩) (v := ?vR4x2a) rfl (by kernel_rfl) (by kernel_rfl) (by kernel_rfl) (by kernel_rfl) (fun _ _ _ h => h) (Or.inl ⟨by rfl, ?hyR4x2a⟩) (by assumption) ?restR4x2a
        case hyR4x2a => (intro w hSw; clear hSw; go_simp; try (with_reducible rfl))
        try simp only [Act.put, List.setIfInBounds_toArray, List.set_cons_zero, List.set_cons_succ]
        refine wpAnyT_takeB (i := 3) (oi := ⟨some 24, .move (.tmp 23), _, _, _, _⟩) (v := ?vR4x3a) rfl (by kernel_rfl) (by kernel_rfl) (by kernel_rfl) (by kernel_rfl) (fun _ _ _ h => h) (Or.inl ⟨by rfl, ?hyR4x3a⟩) (by assumption) ?restR4x3a
        case hyR4x3a => (intro w hSw; clear hSw; go_simp; try (with_reducible rfl))
        try simp only [Act.put, List.setIfInBounds_toArray, List.set_cons_zero, List.set_cons_succ]
        refine wpAnyT_takeB (i := 4) (oi := ⟨some 25, .fieldAddr 40 (.tmp 2) 1, _, _, _, _⟩) (v := undef) rfl (by kernel_rfl) (by kernel_rfl) (by kernel_rfl) (by kernel_rfl) (fun _ _ _ h => h) (Or.inr ⟨by rfl, rfl⟩) (by assumption) ?restR4x4a
        try simp only [Act.put, List.setIfInBounds_toArray, List.set_cons_zero, List.set_cons_succ]
        refine wpAnyT_takeB (i := 5) (oi := ⟨some 26, .load 3 (.tmp 25), _, _, _, _⟩) (v := undef) rfl (by kernel_rfl) (by kernel_rfl) (by kernel_rfl) (by kernel_rfl) (fun _ _ _ h => h) (Or.inr ⟨by rfl, rfl⟩) (by assumption) ?restR4x5a
        try simp only [Act.put, List.setIfInBounds_toArray, List.set_cons_zero, List.set_cons_succ]
        refine wpAnyT_takeB (i := 6) (oi := ⟨some 27, .binOp .leq 3 (.tmp 26) ((.const (.int .i64 3))) 3, _, _, _, _⟩) (v := undef) rfl (by kernel_rfl) (by kernel_rfl) (by kernel_rfl) (by kernel_rfl) (fun _ _ _ h => h) (Or.inr ⟨by rfl, rfl⟩) (by assumption) ?restR4x6a
        try simp only [Act.put, List.setIfInBounds_toArray, List.set_cons_zero, List.set_cons_succ]
        refine wpAnyT_takeB (i := 7) (oi := ⟨some 28, .pick (.tmp 24) (.tmp 27) ((.const (.bool false))), _, _, _, _⟩) (v := ?vR4x7a) rfl (by kernel_rfl) (by kernel_rfl) (by kernel_rfl) (by kernel_rfl) (fun _ _ _ h => h) (Or.inl ⟨by rfl, ?hyR4x7a⟩) (by assumption) ?restR4x7a
        case hyR4x7a => (intro w hSw; clear hSw; go_simp; try (with_reducible rfl))
        try simp only [Act.put, List.setIfInBounds_toArray, List.set_cons_zero, List.set_cons_succ]
        refine wpAnyT_takeB (i := 8) (oi := ⟨some 29, .move (.tmp 28), _, _, _, _⟩) (v := ?vR4x8a) rfl (by kernel_rfl) (by kernel_rfl) (by kernel_rfl) (by kernel_rfl) (fun _ _ _ h => h) (Or.inl ⟨by rfl, ?hyR4x8a⟩) (by assumption) ?restR4x8a
        case hyR4x8a => (intro w hSw; clear hSw; go_simp; try (with_reducible rfl))
        try simp only [Act.put, List.setIfInBounds_toArray, List.set_cons_zero, List.set_cons_succ]
        refine wpAnyT_takeB (i := 9) (oi := ⟨some 30, .fieldAddr 40 (.tmp 2) 3, _, _, _, _⟩) (v := undef) rfl (by kernel_rfl) (by kernel_rfl) (by kernel_rfl) (by kernel_rfl) (fun _ _ _ h => h) (Or.inr ⟨by rfl, rfl⟩) (by assumption) ?restR4x9a
        try simp only [Act.put, List.setIfInBounds_toArray, List.set_cons_zero, List.set_cons_succ]
        refine wpAnyT_takeB (i := 10) (oi := ⟨some 31, .load 3 (.tmp 30), _, _, _, _⟩) (v := undef) rfl (by kernel_rfl) (by kernel_rfl) (by kernel_rfl) (by kernel_rfl) (fun _ _ _ h => h) (Or.inr ⟨by rfl, rfl⟩) (by assumption) ?restR4x10a
        try simp only [Act.put, List.setIfInBounds_toArray, List.set_cons_zero, List.set_cons_succ]
        refine wpAnyT_takeB (i := 11) (oi := ⟨some 32, .binOp .geq 3 (.tmp 31) ((.const (.int .i64 (-1000000000)))) 3, _, _, _, _⟩) (v := undef) rfl (by kernel_rfl) (by kernel_rfl) (by kernel_rfl) (by kernel_rfl) (fun _ _ _ h => h) (Or.inr ⟨by rfl, rfl⟩) (by assumption) ?restR4x11a
        try simp only [Act.put, List.setIfInBounds_toArray, List.set_cons_zero, List.set_cons_succ]
        refine wpAnyT_takeB (i := 12) (oi := ⟨some 33, .pick (.tmp 29) (.tmp 32) ((.const (.bool false))), _, _, _, _⟩) (v := ?vR4x12a) rfl (by kernel_rfl) (by kernel_rfl) (by kernel_rfl) (by kernel_rfl) (fun _ _ _ h => h) (Or.inl ⟨by rfl, ?hyR4x12a⟩) (by assumption) ?restR4x12a
        case hyR4x12a => (intro w hSw; clear hSw; go_simp; try (with_reducible rfl))
        try simp only [Act.put, List.setIfInBounds_toArray, List.set_cons_zero, List.set_cons_succ]
        refine wpAnyT_takeB (i := 13) (oi := ⟨some 34, .move (.tmp 33), _, _, _, _⟩) (v := ?vR4x13a) rfl (by kernel_rfl) (by kernel_rfl) (by kernel_rfl) (by kernel_rfl) (fun _ _ _ h => h) (Or.inl ⟨by rfl, ?hyR4x13a⟩) (by assumption) ?restR4x13a
        case hyR4x13a => (intro w hSw; clear hSw; go_simp; try (with_reducible rfl))
        try simp only [Act.put, List.setIfInBounds_toArray, List.set_cons_zero, List.set_cons_succ]
        refine wpAnyT_takeB (i := 14) (oi := ⟨some 35, .fieldAddr 40 (.tmp 2) 3, _, _, _, _⟩) (v := undef) rfl (by kernel_rfl) (by kernel_rfl) (by kernel_rfl) (by kernel_rfl) (fun _ _ _ h => h) (Or.inr ⟨by rfl, rfl⟩) (by assumption) ?restR4x14a
        try simp only [Act.put, List.setIfInBounds_toArray, List.set_cons_zero, List.set_cons_succ]
        refine wpAnyT_takeB (i := 15) (oi := ⟨some 36, .load 3 (.tmp 35), _, _, _, _⟩) (v := undef) rfl (by kernel_rfl) (by kernel_rfl) (by kernel_rfl) (by kernel_rfl) (fun _ _ _ h => h) (Or.inr ⟨by rfl, rfl⟩) (by assumption) ?restR4x15a
        try simp only [Act.put, List.setIfInBounds_toArray, List.set_cons_zero, List.set_cons_succ]
        refine wpAnyT_takeB (i := 16) (oi := ⟨some 37, .binOp .leq 3 (.tmp 36) ((.const (.int .i64 1000000000))) 3, _, _, _, _⟩) (v := undef) rfl (by kernel_rfl) (by kernel_rfl) (by kernel_rfl) (by kernel_rfl) (fun _ _ _ h => h) (Or.inr ⟨by rfl, rfl⟩) (by assumption) ?restR4x16a
        try simp only [Act.put, List.setIfInBounds_toArray, List.set_cons_zero, List.set_cons_succ]
        refine wpAnyT_takeB (i := 17) (oi := ⟨some 38, .pick (.tmp 34) (.tmp 37) ((.const (.bool false))), _, _, _, _⟩) (v := ?vR4x17a) rfl (by kernel_rfl) (by kernel_rfl) (by kernel_rfl) (by kernel_rfl) (fun _ _ _ h => h) (Or.inl ⟨by rfl, ?hyR4x17a⟩) (by assumption) ?restR4x17a
        case hyR4x17a => (intro w hSw; clear hSw; go_simp; try (with_reducible rfl))
        try simp only [Act.put, List.setIfInBounds_toArray, List.set_cons_zero, List.set_cons_succ]
        refine wpAnyT_takeB (i := 18) (oi := ⟨some 39, .move (.tmp 38), _, _, _, _⟩) (v := ?vR4x18a) rfl (by kernel_rfl) (by kernel_rfl) (by kernel_rfl) (by kernel_rfl) (fun _ _ _ h => h) (Or.inl ⟨by rfl, ?hyR4x18a⟩) (by assumption) ?restR4x18a
        case hyR4x18a => (intro w hSw; clear hSw; go_simp; try (with_reducible rfl))
        try simp only [Act.put, List.setIfInBounds_toArray, List.set_cons_zero, List.set_cons_succ]
        refine wpAnyT_takeB (i := 19) (oi := ⟨some 40, .load 40 (.tmp 8), _, _, _, _⟩) (v := undef) rfl (by kernel_rfl) (by kernel_rfl) (by kernel_rfl) (by kernel_rfl) (fun _ _ _ h => h) (Or.inr ⟨by rfl, rfl⟩) (by assumption) ?restR4x19a
        try simp only [Act.put, List.setIfInBounds_toArray, List.set_cons_zero, List.set_cons_succ]
        refine wpAnyT_takeB (i := 20) (oi := ⟨some 41, .move (.tmp 1), _, _, _, _⟩) (v := undef) rfl (by kernel_rfl) (by kernel_rfl) (by kernel_rfl) (by kernel_rfl) (fun _ _ _ h => h) (Or.inr ⟨by rfl, rfl⟩) (by assumption) ?restR4x20a
        try simp only [Act.put, List.setIfInBounds_toArray, List.set_cons_zero, List.set_cons_succ]
        refine wpAnyT_takeB (i := 22) (oi := ⟨some 43, .load 40 (.tmp 5), _, _, _, _⟩) (v := undef) rfl (by kernel_rfl) (by kernel_rfl) (by kernel_rfl) (by kernel_rfl) (fun _ _ _ h => h) (Or.inr ⟨by rfl, rfl⟩) (by assumption) ?restR4x22a
        try simp only [Act.put, List.setIfInBounds_toArray, List.set_cons_zero, List.set_cons_succ]
        refine wpAnyT_takeB (i := 23) (oi := ⟨some 44, .move (.tmp 1), _, _, _, _⟩) (v := undef) rfl (by kernel_rfl) (by kernel_rfl) (by kernel_rfl) (by kernel_rfl) (fun _ _ _ h => h) (Or.inr ⟨by rfl, rfl⟩) (by assumption) ?restR4x23a
        try simp only [Act.put, List.setIfInBounds_toArray, List.set_cons_zero, List.set_cons_succ]
        refine wpAnyT_one (i := 21) (o := ⟨some 42, .call { callee := .value (.func 13), args := #[.tmp 40, .tmp 41], argTypes := #[40, 27] }, _, _, _, _⟩) (by kernel_rfl) rfl (fun K hK => ?_)
        go_simp
        refine hK.out _ _ ⟨hHeld.1, fun _ => trivial⟩ ?_
        clear hK K
        try simp only [Act.put, List.setIfInBounds_toArray, List.set_cons_zero, List.set_cons_succ]
        refine wpAnyT_one (i := 24) (o := ⟨some 45, .call { callee := .value (.func 13), args := #[.tmp 43, .tmp 44], argTypes := #[40, 27] }, _, _, _, _⟩) (by kernel_rfl) rfl (fun K hK => ?_)
        go_simp
        refine hK.out _ _ ⟨hHeld.1, fun _ => trivial⟩ ?_
        clear hK K
        try simp only [Act.put, List.setIfInBounds_toArray, List.set_cons_zero, List.set_cons_succ]
        refine wpAnyT_takeB (i := 25) (oi := ⟨some 46, .move (.tmp 45), _, _, _, _⟩) (v := undef) rfl (by kernel_rfl) (by kernel_rfl) (by kernel_rfl) (by kernel_rfl) (fun _ _ _ h => h) (Or.inr ⟨by rfl, rfl⟩) (by assumption) ?restR4x25a
        try simp only [Act.put, List.setIfInBounds_toArray, List.set_cons_zero, List.set_cons_succ]
        refine wpAnyT_takeB (i := 26) (oi := ⟨some 47, .load 40 (.tmp 7), _, _, _, _⟩) (v := undef) rfl (by kernel_rfl) (by kernel_rfl) (by kernel_rfl) (by kernel_rfl) (fun _ _ _ h => h) (Or.inr ⟨by rfl, rfl⟩) (by assumption) ?restR4x26a
        try simp only [Act.put, List.setIfInBounds_toArray, List.set_cons_zero, List.set_cons_succ]
        refine wpAnyT_takeB (i := 27) (oi := ⟨some 48, .move (.tmp 1), _, _, _, _⟩) (v := undef) rfl (by kernel_rfl) (by kernel_rfl) (by kernel_rfl) (by kernel_rfl) (fun _ _ _ h => h) (Or.inr ⟨by rfl, rfl⟩) (by assumption) ?restR4x27a
        try simp only [Act.put, List.setIfInBounds_toArray, List.set_cons_zero, List.set_cons_succ]
        refine wpAnyT_one (i := 28) (o := ⟨some 49, .call { callee := .value (.func 13), args := #[.tmp 47, .tmp 48], argTypes := #[40, 27] }, _, _, _, _⟩) (by kernel_rfl) rfl (fun K hK => ?_)
        go_simp
        refine hK.out _ _ ⟨hHeld.1, fun _ => trivial⟩ ?_
        clear hK K
        try simp only [Act.put, List.setIfInBounds_toArray, List.set_cons_zero, List.set_cons_succ]
        refine wpAnyT_takeB (i := 29) (oi := ⟨some 50, .pick (.tmp 46) ((.const (.bool true))) (.tmp 49), _, _, _, _⟩) (v := undef) rfl (by kernel_rfl) (by kernel_rfl) (by kernel_rfl) (by kernel_rfl) (fun _ _ _ h => h) (Or.inr ⟨by rfl, rfl⟩) (by assumption) ?restR4x29a
        try simp only [Act.put, List.setIfInBounds_toArray, List.set_cons_zero, List.set_cons_succ]
        refine wpAnyT_takeB (i := 30) (oi := ⟨some 51, .binOp .neq 4 (.tmp 42) (.tmp 50) 4, _, _, _, _⟩) (v := undef) rfl (by kernel_rfl) (by kernel_rfl) (by kernel_rfl) (by kernel_rfl) (fun _ _ _ h => h) (Or.inr ⟨by rfl, rfl⟩) (by assumption) ?restR4x30a
        try simp only [Act.put, List.setIfInBounds_toArray, List.set_cons_zero, List.set_cons_succ]
        refine wpAnyT_takeB (i := 31) (oi := ⟨some 52, .pick (.tmp 39) (.tmp 51) ((.const (.bool false))), _, _, _, _⟩) (v := ?vR4x31a) rfl (by kernel_rfl) (by kernel_rfl) (by kernel_rfl) (by kernel_rfl) (fun _ _ _ h => h) (Or.inl ⟨by rfl, ?hyR4x31a⟩) (by assumption) ?restR4x31a
        case hyR4x31a => (intro w hSw; clear hSw; go_simp; try (with_reducible rfl))
        try simp only [Act.put, List.setIfInBounds_toArray, List.set_cons_zero, List.set_cons_succ]
        refine wpAnyT_done (by kernel_rfl) ?_ _

        go_wp2_with fail
        go_meet
        exact ⟨rfl, hHeld.1⟩
      by_cases o3 : 3 < c.op
      · have o1B : 1 ≤ c.op := by omega
        have o3B : ¬ c.op ≤ 3 := by omega
        refine wp_region_T (S4 w.heap.size x1 x2 x3 x4 (#[.int .i64 c.kind, .int .i64 c.op, .slice ta c.terms.length tc, .int .i64 c.k, .int .i64 c.v, .int .i64 c.x, .int .i64 c.y, .slice xa c.xs.length xc, .slice ba c.table.length bc, .slice ra c.rows.length rc]) (#[.int .i64 c.kind, .int .i64 1, .slice ta c.terms.length tc, .int .i64 c.k, .int .i64 c.v, .int .i64 c.x, .int .i64 c.y, .slice xa c.xs.length xc, .slice ba c.table.length bc, .slice ra c.rows.length rc]) (#[.int .i64 c.kind, .int .i64 2, .slice ta c.terms.length tc, .int .i64 c.k, .int .i64 c.v, .int .i64 c.x, .int .i64 c.y, .slice xa c.xs.length xc, .slice ba c.table.length bc, .slice ra c.rows.length rc]) (#[.int .i64 c.kind, .int .i64 3, .slice ta c.terms.length tc, .int .i64 c.k, .int .i64 c.v, .int .i64 c.x, .int .i64 c.y, .slice xa c.xs.length xc, .slice ba c.table.length bc, .slice ra c.rows.length rc]) (#[.int .i64 c.kind, .int .i64 1, .slice ta c.terms.length tc, .int .i64 (c.xs.length : Int), .int .i64 c.v, .int .i64 c.x, .int .i64 c.y, .slice xa c.xs.length xc, .slice ba c.table.length bc, .slice ra c.rows.length rc]) V5) (fun _ => True) [] (by kernel_rfl) ⟨HS5.out.next (Below.refl _ _).drew, trivial⟩ (fun hHeld => ?_)
        refine wpAnyT_takeB (i := 0) (oi := ⟨some 21, .fieldAddr 40 (.tmp 2) 1, _, _, _, _⟩) (v := ?vR4x0b) rfl (by kernel_rfl) (by kernel_rfl) (by kernel_rfl) (by kernel_rfl) (fun _ _ _ h => h) (Or.inl ⟨by rfl, ?hyR4x0b⟩) (by assumption) ?restR4x0b
        case hyR4x0b => (intro w hSw; clear hSw; go_simp; try (with_reducible rfl))
        try simp only [Act.put, List.setIfInBounds_toArray, List.set_cons_zero, List.set_cons_succ]
        refine wpAnyT_takeB (i := 1) (oi := ⟨some 22, .load 3 (.tmp 21), _, _, _, _⟩) (v := ?vR4x1b) rfl (by kernel_rfl) (by kernel_rfl) (by kernel_rfl) (by kernel_rfl) (fun _ _ _ h => h) (Or.inl ⟨by rfl, ?hyR4x1b⟩) (by assumption) ?restR4x1b
        case hyR4x1b => (intro w hSw; obtain ⟨⟨p0, p1, p2, p3, p4, p5, p6, p7, p8, p9⟩, _⟩ := box10 hSw.n; go_simp; try (with_reducible rfl))
        try simp only [Act.put, List.setIfInBounds_toArray, List.set_cons_zero, List.set_cons_succ]
        refine wpAnyT_takeB (i := 2) (oi := ⟨some 23, .binOp .geq 3 (.tmp 22) ((.const (.int .i64 1))) 3, _, _, _, _⟩) (v := ?vR4x2b) rfl (by kernel_rfl) (by kernel_rfl) (by kernel_rfl) (by kernel_rfl) (fun _ _ _ h => h) (Or.inl ⟨by rfl, ?hyR4x2b⟩) (by assumption) ?restR4x2b
        case hyR4x2b => (intro w hSw; clear hSw; go_simp; try (with_reducible rfl))
        try simp only [Act.put, List.setIfInBounds_toArray, List.set_cons_zero, List.set_cons_succ]
        refine wpAnyT_takeB (i := 3) (oi := ⟨some 24, .move (.tmp 23), _, _, _, _⟩) (v := ?vR4x3b) rfl (by kernel_rfl) (by kernel_rfl) (by kernel_rfl) (by kernel_rfl) (fun _ _ _ h => h) (Or.inl ⟨by rfl, ?hyR4x3b⟩) (by assumption) ?restR4x3b
        case hyR4x3b => (intro w hSw; clear hSw; go_simp; try (with_reducible rfl))
        try simp only [Act.put, List.setIfInBounds_toArray, List.set_cons_zero, List.set_cons_succ]
        refine wpAnyT_takeB (i := 4) (oi := ⟨some 25, .fieldAddr 40 (.tmp 2) 1, _, _, _, _⟩) (v := ?vR4x4b) rfl (by kernel_rfl) (by kernel_rfl) (by kernel_rfl) (by kernel_rfl) (fun _ _ _ h => h) (Or.inl ⟨by rfl, ?hyR4x4b⟩) (by assumption) ?restR4x4b
        case hyR4x4b => (intro w hSw; clear hSw; go_simp; try (with_reducible rfl))
        try simp only [Act.put, List.setIfInBounds_toArray, List.set_cons_zero, List.set_cons_succ]
        refine wpAnyT_takeB (i := 5) (oi := ⟨some 26, .load 3 (.tmp 25), _, _, _, _⟩) (v := ?vR4x5b) rfl (by kernel_rfl) (by kernel_rfl) (by kernel_rfl) (by kernel_rfl) (fun _ _ _ h => h) (Or.inl ⟨by rfl, ?hyR4x5b⟩) (by assumption) ?restR4x5b
        case hyR4x5b => (intro w hSw; obtain ⟨⟨p0, p1, p2, p3, p4, p5, p6, p7, p8, p9⟩, _⟩ := box10 hSw.n; go_simp; try (with_reducible rfl))
        try simp only [Act.put, List.setIfInBounds_toArray, List.set_cons_zero, List.set_cons_succ]
        refine wpAnyT_takeB (i := 6) (oi := ⟨some 27, .binOp .leq 3 (.tmp 26) ((.const (.int .i64 3))) 3, _, _, _, _⟩) (v := ?vR4x6b) rfl (by kernel_rfl) (by kernel_rfl) (by kernel_rfl) (by kernel_rfl) (fun _ _ _ h => h) (Or.inl ⟨by rfl, ?hyR4x6b⟩) (by assumption) ?restR4x6b
        case hyR4x6b => (intro w hSw; clear hSw; go_simp; try (with_reducible rfl))
        try simp only [Act.put, List.setIfInBounds_toArray, List.set_cons_zero, List.set_cons_succ]
        refine wpAnyT_takeB (i := 7) (oi := ⟨some 28, .pick (.tmp 24) (.tmp 27) ((.const (.bool false))), _, _, _, _⟩) (v := ?vR4x7b) rfl (by kernel_rfl) (by kernel_rfl) (by kernel_rfl) (by kernel_rfl) (fun _ _ _ h => h) (Or.inl ⟨by rfl, ?hyR4x7b⟩) (by assumption) ?restR4x7b
        case hyR4x7b => (intro w hSw; clear hSw; go_simp; try (with_reducible rfl))
        try simp only [Act.put, List.setIfInBounds_toArray, List.set_cons_zero, List.set_cons_succ]
        refine wpAnyT_takeB (i := 8) (oi := ⟨some 29, .move (.tmp 28), _, _, _, _⟩) (v := ?vR4x8b) rfl (by kernel_rfl) (by kernel_rfl) (by kernel_rfl) (by kernel_rfl) (fun _ _ _ h => h) (Or.inl ⟨by rfl, ?hyR4x8b⟩) (by assumption) ?restR4x8b
        case hyR4x8b => (intro w hSw; clear hSw; go_simp; try (with_reducible rfl))
        try simp only [Act.put, List.setIfInBounds_toArray, List.set_cons_zero, List.set_cons_succ]
        refine wpAnyT_takeB (i := 9) (oi := ⟨some 30, .fieldAddr 40 (.tmp 2) 3, _, _, _, _⟩) (v := undef) rfl (by kernel_rfl) (by kernel_rfl) (by kernel_rfl) (by kernel_rfl) (fun _ _ _ h => h) (Or.inr ⟨by rfl, rfl⟩) (by assumption) ?restR4x9b
        try simp only [Act.put, List.setIfInBounds_toArray, List.set_cons_zero, List.set_cons_succ]
        refine wpAnyT_takeB (i := 10) (oi := ⟨some 31, .load 3 (.tmp 30), _, _, _, _⟩) (v := undef) rfl (by kernel_rfl) (by kernel_rfl) (by kernel_rfl) (by kernel_rfl) (fun _ _ _ h => h) (Or.inr ⟨by rfl, rfl⟩) (by assumption) ?restR4x10b
        try simp only [Act.put, List.setIfInBounds_toArray, List.set_cons_zero, List.set_cons_succ]
        refine wpAnyT_takeB (i := 11) (oi := ⟨some 32, .binOp .geq 3 (.tmp 31) ((.const (.int .i64 (-1000000000)))) 3, _, _, _, _⟩) (v := undef) rfl (by kernel_rfl) (by kernel_rfl) (by kernel_rfl) (by kernel_rfl) (fun _ _ _ h => h) (Or.inr ⟨by rfl, rfl⟩) (by assumption) ?restR4x11b
        try simp only [Act.put, List.setIfInBounds_toArray, List.set_cons_zero, List.set_cons_succ]
        refine wpAnyT_takeB (i := 12) (oi := ⟨some 33, .pick (.tmp 29) (.tmp 32) ((.const (.bool false))), _, _, _, _⟩) (v := ?vR4x12b) rfl (by kernel_rfl) (by kernel_rfl) (by kernel_rfl) (by kernel_rfl) (fun _ _ _ h => h) (Or.inl ⟨by rfl, ?hyR4x12b⟩) (by assumption) ?restR4x12b
        case hyR4x12b => (intro w hSw; clear hSw; go_simp; try (with_reducible rfl))
        try simp only [Act.put, List.setIfInBounds_toArray, List.set_cons_zero, List.set_cons_succ]
        refine wpAnyT_takeB (i := 13) (oi := ⟨some 34, .move (.tmp 33), _, _, _, _⟩) (v := ?vR4x13b) rfl (by kernel_rfl) (by kernel_rfl) (by kernel_rfl) (by kernel_rfl) (fun _ _ _ h => h) (Or.inl ⟨by rfl, ?hyR4x13b⟩) (by assumption) ?restR4x13b
        case hyR4x13b => (intro w hSw; clear hSw; go_simp; try (with_reducible rfl))
        try simp only [Act.put, List.setIfInBounds_toArray, List.set_cons_zero, List.set_cons_succ]
        refine wpAnyT_takeB (i := 14) (oi := ⟨some 35, .fieldAddr 40 (.tmp 2) 3, _, _, _, _⟩) (v := undef) rfl (by kernel_rfl) (by kernel_rfl) (by kernel_rfl) (by kernel_rfl) (fun _ _ _ h => h) (Or.inr ⟨by rfl, rfl⟩) (by assumption) ?restR4x14b
        try simp only [Act.put, List.setIfInBounds_toArray, List.set_cons_zero, List.set_cons_succ]
        refine wpAnyT_takeB (i := 15) (oi := ⟨some 36, .load 3 (.tmp 35), _, _, _, _⟩) (v := undef) rfl (by kernel_rfl) (by kernel_rfl) (by kernel_rfl) (by kernel_rfl) (fun _ _ _ h => h) (Or.inr ⟨by rfl, rfl⟩) (by assumption) ?restR4x15b
        try simp only [Act.put, List.setIfInBounds_toArray, List.set_cons_zero, List.set_cons_succ]
        refine wpAnyT_takeB (i := 16) (oi := ⟨some 37, .binOp .leq 3 (.tmp 36) ((.const (.int .i64 1000000000))) 3, _, _, _, _⟩) (v := undef) rfl (by kernel_rfl) (by kernel_rfl) (by kernel_rfl) (by kernel_rfl) (fun _ _ _ h => h) (Or.inr ⟨by rfl, rfl⟩) (by assumption) ?restR4x16b
        try simp only [Act.put, List.setIfInBounds_toArray, List.set_cons_zero, List.set_cons_succ]
        refine wpAnyT_takeB (i := 17) (oi := ⟨some 38, .pick (.tmp 34) (.tmp 37) ((.const (.bool false))), _, _, _, _⟩) (v := ?vR4x17b) rfl (by kernel_rfl) (by kernel_rfl) (by kernel_rfl) (by kernel_rfl) (fun _ _ _ h => h) (Or.inl ⟨by rfl, ?hyR4x17b⟩) (by assumption) ?restR4x17b
        case hyR4x17b => (intro w hSw; clear hSw; go_simp; try (with_reducible rfl))
        try simp only [Act.put, List.setIfInBounds_toArray, List.set_cons_zero, List.set_cons_succ]
        refine wpAnyT_takeB (i := 18) (oi := ⟨some 39, .move (.tmp 38), _, _, _, _⟩) (v := ?vR4x18b) rfl (by kernel_rfl) (by kernel_rfl) (by kernel_rfl) (by kernel_rfl) (fun _ _ _ h => h) (Or.inl ⟨by rfl, ?hyR4x18b⟩) (by assumption) ?restR4x18b
        case hyR4x18b => (intro w hSw; clear hSw; go_simp; try (with_reducible rfl))
        try simp only [Act.put, List.setIfInBounds_toArray, List.set_cons_zero, List.set_cons_succ]
        refine wpAnyT_takeB (i := 19) (oi := ⟨some 40, .load 40 (.tmp 8), _, _, _, _⟩) (v := undef) rfl (by kernel_rfl) (by kernel_rfl) (by kernel_rfl) (by kernel_rfl) (fun _ _ _ h => h) (Or.inr ⟨by rfl, rfl⟩) (by assumption) ?restR4x19b
        try simp only [Act.put, List.setIfInBounds_toArray, List.set_cons_zero, List.set_cons_succ]
        refine wpAnyT_takeB (i := 20) (oi := ⟨some 41, .move (.tmp 1), _, _, _, _⟩) (v := undef) rfl (by kernel_rfl) (by kernel_rfl) (by kernel_rfl) (by kernel_rfl) (fun _ _ _ h => h) (Or.inr ⟨by rfl, rfl⟩) (by assumption) ?restR4x20b
        try simp only [Act.put, List.setIfInBounds_toArray, List.set_cons_zero, List.set_cons_succ]
        refine wpAnyT_takeB (i := 22) (oi := ⟨some 43, .load 40 (.tmp 5), _, _, _, _⟩) (v := undef) rfl (by kernel_rfl) (by kernel_rfl) (by kernel_rfl) (by kernel_rfl) (fun _ _ _ h => h) (Or.inr ⟨by rfl, rfl⟩) (by assumption) ?restR4x22b
        try simp only [Act.put, List.setIfInBounds_toArray, List.set_cons_zero, List.set_cons_succ]
        refine wpAnyT_takeB (i := 23) (oi := ⟨some 44, .move (.tmp 1), _, _, _, _⟩) (v := undef) rfl (by kernel_rfl) (by kernel_rfl) (by kernel_rfl) (by kernel_rfl) (fun _ _ _ h => h) (Or.inr ⟨by rfl, rfl⟩) (by assumption) ?restR4x23b
        try simp only [Act.put, List.setIfInBounds_toArray, List.set_cons_zero, List.set_cons_succ]
        refine wpAnyT_one (i := 21) (o := ⟨some 42, .call { callee := .value (.func 13), args := #[.tmp 40, .tmp 41], argTypes := #[40, 27] }, _, _, _, _⟩) (by kernel_rfl) rfl (fun K hK => ?_)
        go_simp
        refine hK.out _ _ ⟨hHeld.1, fun _ => trivial⟩ ?_
        clear hK K
        try simp only [Act.put, List.setIfInBounds_toArray, List.set_cons_zero, List.set_cons_succ]
        refine wpAnyT_one (i := 24) (o := ⟨some 45, .call { callee := .value (.func 13), args := #[.tmp 43, .tmp 44], argTypes := #[40, 27] }, _, _, _, _⟩) (by kernel_rfl) rfl (fun K hK => ?_)
        go_simp
        refine hK.out _ _ ⟨hHeld.1, fun _ => trivial⟩ ?_
        clear hK K
        try simp only [Act.put, List.setIfInBounds_toArray, List.set_cons_zero, List.set_cons_succ]
        refine wpAnyT_takeB (i := 25) (oi := ⟨some 46, .move (.tmp 45), _, _, _, _⟩) (v := undef) rfl (by kernel_rfl) (by kernel_rfl) (by kernel_rfl) (by kernel_rfl) (fun _ _ _ h => h) (Or.inr ⟨by rfl, rfl⟩) (by assumption) ?restR4x25b
        try simp only [Act.put, List.setIfInBounds_toArray, List.set_cons_zero, List.set_cons_succ]
        refine wpAnyT_takeB (i := 26) (oi := ⟨some 47, .load 40 (.tmp 7), _, _, _, _⟩) (v := undef) rfl (by kernel_rfl) (by kernel_rfl) (by kernel_rfl) (by kernel_rfl) (fun _ _ _ h => h) (Or.inr ⟨by rfl, rfl⟩) (by assumption) ?restR4x26b
        try simp only [Act.put, List.setIfInBounds_toArray, List.set_cons_zero, List.set_cons_succ]
        refine wpAnyT_takeB (i := 27) (oi := ⟨some 48, .move (.tmp 1), _, _, _, _⟩) (v := undef) rfl (by kernel_rfl) (by kernel_rfl) (by kernel_rfl) (by kernel_rfl) (fun _ _ _ h => h) (Or.inr ⟨by rfl, rfl⟩) (by assumption) ?restR4x27b
        try simp only [Act.put, List.setIfInBounds_toArray, List.set_cons_zero, List.set_cons_succ]
        refine wpAnyT_one (i := 28) (o := ⟨some 49, .call { callee := .value (.func 13), args := #[.tmp 47, .tmp 48], argTypes := #[40, 27] }, _, _, _, _⟩) (by kernel_rfl) rfl (fun K hK => ?_)
        go_simp
        refine hK.out _ _ ⟨hHeld.1, fun _ => trivial⟩ ?_
        clear hK K
        try simp only [Act.put, List.setIfInBounds_toArray, List.set_cons_zero, List.set_cons_succ]
        refine wpAnyT_takeB (i := 29) (oi := ⟨some 50, .pick (.tmp 46) ((.const (.bool true))) (.tmp 49), _, _, _, _⟩) (v := undef) rfl (by kernel_rfl) (by kernel_rfl) (by kernel_rfl) (by kernel_rfl) (fun _ _ _ h => h) (Or.inr ⟨by rfl, rfl⟩) (by assumption) ?restR4x29b
        try simp only [Act.put, List.setIfInBounds_toArray, List.set_cons_zero, List.set_cons_succ]
        refine wpAnyT_takeB (i := 30) (oi := ⟨some 51, .binOp .neq 4 (.tmp 42) (.tmp 50) 4, _, _, _, _⟩) (v := undef) rfl (by kernel_rfl) (by kernel_rfl) (by kernel_rfl) (by kernel_rfl) (fun _ _ _ h => h) (Or.inr ⟨by rfl, rfl⟩) (by assumption) ?restR4x30b
        try simp only [Act.put, List.setIfInBounds_toArray, List.set_cons_zero, List.set_cons_succ]
        refine wpAnyT_takeB (i := 31) (oi := ⟨some 52, .pick (.tmp 39) (.tmp 51) ((.const (.bool false))), _, _, _, _⟩) (v := ?vR4x31b) rfl (by kernel_rfl) (by kernel_rfl) (by kernel_rfl) (by kernel_rfl) (fun _ _ _ h => h) (Or.inl ⟨by rfl, ?hyR4x31b⟩) (by assumption) ?restR4x31b
        case hyR4x31b => (intro w hSw; clear hSw; go_simp; try (with_reducible rfl))
        try simp only [Act.put, List.setIfInBounds_toArray, List.set_cons_zero, List.set_cons_succ]
        refine wpAnyT_done (by kernel_rfl) ?_ _

        go_wp2_with fail
        go_meet
        exact ⟨rfl, hHeld.1⟩
      have o1B : 1 ≤ c.op := by omega
      have o3B : c.op ≤ 3 := by omega
      by_cases k1 : c.k < -1000000000
      · have k1B : ¬ -1000000000 ≤ c.k := by omega
        refine wp_region_T (S4 w.heap.size x1 x2 x3 x4 (#[.int .i64 c.kind, .int .i64 c.op, .slice ta c.terms.length tc, .int .i64 c.k, .int .i64 c.v, .int .i64 c.x, .int .i64 c.y, .slice xa c.xs.length xc, .slice ba c.table.length bc, .slice ra c.rows.length rc]) (#[.int .i64 c.kind, .int .i64 1, .slice ta c.terms.length tc, .int .i64 c.k, .int .i64 c.v, .int .i64 c.x, .int .i64 c.y, .slice xa c.xs.length xc, .slice ba c.table.length bc, .slice ra c.rows.length rc]) (#[.int .i64 c.kind, .int .i64 2, .slice ta c.terms.length tc, .int .i64 c.k, .int .i64 c.v, .int .i64 c.x, .int .i64 c.y, .slice xa c.xs.length xc, .slice ba c.table.length bc, .slice ra c.rows.length rc]) (#[.int .i64 c.kind, .int .i64 3, .slice ta c.terms.length tc, .int .i64 c.k, .int .i64 c.v, .int .i64 c.x, .int .i64 c.y, .slice xa c.xs.length xc, .slice ba c.table.length bc, .slice ra c.rows.length rc]) (#[.int .i64 c.kind, .int .i64 1, .slice ta c.terms.length tc, .int .i64 (c.xs.length : Int), .int .i64 c.v, .int .i64 c.x, .int .i64 c.y, .slice xa c.xs.length xc, .slice ba c.table.length bc, .slice ra c.rows.length rc]) V5) (fun _ => True) [] (by kernel_rfl) ⟨HS5.out.next (Below.refl _ _).drew, trivial⟩ (fun hHeld => ?_)
        refine wpAnyT_takeB (i := 0) (oi := ⟨some 21, .fieldAddr 40 (.tmp 2) 1, _, _, _, _⟩) (v := ?vR4x0c) rfl (by kernel_rfl) (by kernel_rfl) (by kernel_rfl) (by kernel_rfl) (fun _ _ _ h => h) (Or.inl ⟨by rfl, ?hyR4x0c⟩) (by assumption) ?restR4x0c
        case hyR4x0c => (intro w hSw; clear hSw; go_simp; try (with_reducible rfl))
        try simp only [Act.put, List.setIfInBounds_toArray, List.set_cons_zero, List.set_cons_succ]
        refine wpAnyT_takeB (i := 1) (oi := ⟨some 22, .load 3 (.tmp 21), _, _, _, _⟩) (v := ?vR4x1c) rfl (by kernel_rfl) (by kernel_rfl) (by kernel_rfl) (by kernel_rfl) (fun _ _ _ h => h) (Or.inl ⟨by rfl, ?hyR4x1c⟩) (by assumption) ?restR4x1c
        case hyR4x1c => (intro w hSw; obtain ⟨⟨p0, p1, p2, p3, p4, p5, p6, p7, p8, p9⟩, _⟩ := box10 hSw.n; go_simp; try (with_reducible rfl))
        try simp only [Act.put, List.setIfInBounds_toArray, List.set_cons_zero, List.set_cons_succ]
        refine wpAnyT_takeB (i := 2) (oi := ⟨some 23, .binOp .geq 3 (.tmp 22) ((.const (.int .i64 1))) 3, _, _, _, _⟩) (v := ?vR4x2c) rfl (by kernel_rfl) (by kernel_rfl) (by kernel_rfl) (by kernel_rfl) (fun _ _ _ h => h) (Or.inl ⟨by rfl, ?hyR4x2c⟩) (by assumption) ?restR4x2c
        case hyR4x2c => (intro w hSw; clear hSw; go_simp; try (with_reducible rfl))
        try simp only [Act.put, List.setIfInBounds_toArray, List.set_cons_zero, List.set_cons_succ]
        refine wpAnyT_takeB (i := 3) (oi := ⟨some 24, .move (.tmp 23), _, _, _, _⟩) (v := ?vR4x3c) rfl (by kernel_rfl) (by kernel_rfl) (by kernel_rfl) (by kernel_rfl) (fun _ _ _ h => h) (Or.inl ⟨by rfl, ?hyR4x3c⟩) (by assumption) ?restR4x3c
        case hyR4x3c => (intro w hSw; clear hSw; go_simp; try (with_reducible rfl))
        try simp only [Act.put, List.setIfInBounds_toArray, List.set_cons_zero, List.set_cons_succ]
        refine wpAnyT_takeB (i := 4) (oi := ⟨some 25, .fieldAddr 40 (.tmp 2) 1, _, _, _, _⟩) (v := ?vR4x4c) rfl (by kernel_rfl) (by kernel_rfl) (by kernel_rfl) (by kernel_rfl) (fun _ _ _ h => h) (Or.inl ⟨by rfl, ?hyR4x4c⟩) (by assumption) ?restR4x4c
        case hyR4x4c => (intro w hSw; clear hSw; go_simp; try (with_reducible rfl))
        try simp only [Act.put, List.setIfInBounds_toArray, List.set_cons_zero, List.set_cons_succ]
        refine wpAnyT_takeB (i := 5) (oi := ⟨some 26, .load 3 (.tmp 25), _, _, _, _⟩) (v := ?vR4x5c) rfl (by kernel_rfl) (by kernel_rfl) (by kernel_rfl) (by kernel_rfl) (fun _ _ _ h => h) (Or.inl ⟨by rfl, ?hyR4x5c⟩) (by assumption) ?restR4x5c
        case hyR4x5c => (intro w hSw; obtain ⟨⟨p0, p1, p2, p3, p4, p5, p6, p7, p8, p9⟩, _⟩ := box10 hSw.n; go_simp; try (with_reducible rfl))
        try simp only [Act.put, List.setIfInBounds_toArray, List.set_cons_zero, List.set_cons_succ]
        refine wpAnyT_takeB (i := 6) (oi := ⟨some 27, .binOp .leq 3 (.tmp 26) ((.const (.int .i64 3))) 3, _, _, _, _⟩) (v := ?vR4x6c) rfl (by kernel_rfl) (by kernel_rfl) (by kernel_rfl) (by kernel_rfl) (fun _ _ _ h => h) (Or.inl ⟨by rfl, ?hyR4x6c⟩) (by assumption) ?restR4x6c
        case hyR4x6c => (intro w hSw; clear hSw; go_simp; try (with_reducible rfl))
        try simp only [Act.put, List.setIfInBounds_toArray, List.set_cons_zero, List.set_cons_succ]
        refine wpAnyT_takeB (i := 7) (oi := ⟨some 28, .pick (.tmp 24) (.tmp 27) ((.const (.bool false))), _, _, _, _⟩) (v := ?vR4x7c) rfl (by kernel_rfl) (by kernel_rfl) (by kernel_rfl) (by kernel_rfl) (fun _ _ _ h => h) (Or.inl ⟨by rfl, ?hyR4x7c⟩) (by assumption) ?restR4x7c
        case hyR4x7c => (intro w hSw; clear hSw; go_simp; try (with_reducible rfl))
        try simp only [Act.put, List.setIfInBounds_toArray, List.set_cons_zero, List.set_cons_succ]
        refine wpAnyT_takeB (i := 8) (oi := ⟨some 29, .move (.tmp 28), _, _, _, _⟩) (v := ?vR4x8c) rfl (by kernel_rfl) (by kernel_rfl) (by kernel_rfl) (by kernel_rfl) (fun _ _ _ h => h) (Or.inl ⟨by rfl, ?hyR4x8c⟩) (by assumption) ?restR4x8c
        case hyR4x8c => (intro w hSw; clear hSw; go_simp; try (with_reducible rfl))
        try simp only [Act.put, List.setIfInBounds_toArray, List.set_cons_zero, List.set_cons_succ]
        refine wpAnyT_takeB (i := 9) (oi := ⟨some 30, .fieldAddr 40 (.tmp 2) 3, _, _, _, _⟩) (v := ?vR4x9c) rfl (by kernel_rfl) (by kernel_rfl) (by kernel_rfl) (by kernel_rfl) (fun _ _ _ h => h) (Or.inl ⟨by rfl, ?hyR4x9c⟩) (by assumption) ?restR4x9c
        case hyR4x9c => (intro w hSw; clear hSw; go_simp; try (with_reducible rfl))
        try simp only [Act.put, List.setIfInBounds_toArray, List.set_cons_zero, List.set_cons_succ]
        refine wpAnyT_takeB (i := 10) (oi := ⟨some 31, .load 3 (.tmp 30), _, _, _, _⟩) (v := ?vR4x10c) rfl (by kernel_rfl) (by kernel_rfl) (by kernel_rfl) (by kernel_rfl) (fun _ _ _ h => h) (Or.inl ⟨by rfl, ?hyR4x10c⟩) (by assumption) ?restR4x10c
        case hyR4x10c => (intro w hSw; obtain ⟨⟨p0, p1, p2, p3, p4, p5, p6, p7, p8, p9⟩, _⟩ := box10 hSw.n; go_simp; try (with_reducible rfl))
        try simp only [Act.put, List.setIfInBounds_toArray, List.set_cons_zero, List.set_cons_succ]
        refine wpAnyT_takeB (i := 11) (oi := ⟨some 32, .binOp .geq 3 (.tmp 31) ((.const (.int .i64 (-1000000000)))) 3, _, _, _, _⟩) (v := ?vR4x11c) rfl (by kernel_rfl) (by kernel_rfl) (by kernel_rfl) (by kernel_rfl) (fun _ _ _ h => h) (Or.inl ⟨by rfl, ?hyR4x11c⟩) (by assumption) ?restR4x11c
        case hyR4x11c => (intro w hSw; clear hSw; go_simp; try (with_reducible rfl))
        try simp only [Act.put, List.setIfInBounds_toArray, List.set_cons_zero, List.set_cons_succ]
        refine wpAnyT_takeB (i := 12) (oi := ⟨some 33, .pick (.tmp 29) (.tmp 32) ((.const (.bool false))), _, _, _, _⟩) (v := ?vR4x12c) rfl (by kernel_rfl) (by kernel_rfl) (by kernel_rfl) (by kernel_rfl) (fun _ _ _ h => h) (Or.inl ⟨by rfl, ?hyR4x12c⟩) (by assumption) ?restR4x12c
        case hyR4x12c => (intro w hSw; clear hSw; go_simp; try (with_reducible rfl))
        try simp only [Act.put, List.setIfInBounds_toArray, List.set_cons_zero, List.set_cons_succ]
        refine wpAnyT_takeB (i := 13) (oi := ⟨some 34, .move (.tmp 33), _, _, _, _⟩) (v := ?vR4x13c) rfl (by kernel_rfl) (by kernel_rfl) (by kernel_rfl) (by kernel_rfl) (fun _ _ _ h => h) (Or.inl ⟨by rfl, ?hyR4x13c⟩) (by assumption) ?restR4x13c
        case hyR4x13c => (intro w hSw; clear hSw; go_simp; try (with_reducible rfl))
        try simp only [Act.put, List.setIfInBounds_toArray, List.set_cons_zero, List.set_cons_succ]
        refine wpAnyT_takeB (i := 14) (oi := ⟨some 35, .fieldAddr 40 (.tmp 2) 3, _, _, _, _⟩) (v := undef) rfl (by kernel_rfl) (by kernel_rfl) (by kernel_rfl) (by kernel_rfl) (fun _ _ _ h => h) (Or.inr ⟨by rfl, rfl⟩) (by assumption) ?restR4x14c
        try simp only [Act.put, List.setIfInBounds_toArray, List.set_cons_zero, List.set_cons_succ]
        refine wpAnyT_takeB (i := 15) (oi := ⟨some 36, .load 3 (.tmp 35), _, _, _, _⟩) (v := undef) rfl (by kernel_rfl) (by kernel_rfl) (by kernel_rfl) (by kernel_rfl) (fun _ _ _ h => h) (Or.inr ⟨by rfl, rfl⟩) (by assumption) ?restR4x15c
        try simp only [Act.put, List.setIfInBounds_toArray, List.set_cons_zero, List.set_cons_succ]
        refine wpAnyT_takeB (i := 16) (oi := ⟨some 37, .binOp .leq 3 (.tmp 36) ((.const (.int .i64 1000000000))) 3, _, _, _, _⟩) (v := undef) rfl (by kernel_rfl) (by kernel_rfl) (by kernel_rfl) (by kernel_rfl) (fun _ _ _ h => h) (Or.inr ⟨by rfl, rfl⟩) (by assumption) ?restR4x16c
        try simp only [Act.put, List.setIfInBounds_toArray, List.set_cons_zero, List.set_cons_succ]
        refine wpAnyT_takeB (i := 17) (oi := ⟨some 38, .pick (.tmp 34) (.tmp 37) ((.const (.bool false))), _, _, _, _⟩) (v := ?vR4x17c) rfl (by kernel_rfl) (by kernel_rfl) (by kernel_rfl) (by kernel_rfl) (fun _ _ _ h => h) (Or.inl ⟨by rfl, ?hyR4x17c⟩) (by assumption) ?restR4x17c
        case hyR4x17c => (intro w hSw; clear hSw; go_simp; try (with_reducible rfl))
        try simp only [Act.put, List.setIfInBounds_toArray, List.set_cons_zero, List.set_cons_succ]
        refine wpAnyT_takeB (i := 18) (oi := ⟨some 39, .move (.tmp 38), _, _, _, _⟩) (v := ?vR4x18c) rfl (by kernel_rfl) (by kernel_rfl) (by kernel_rfl) (by kernel_rfl) (fun _ _ _ h => h) (Or.inl ⟨by rfl, ?hyR4x18c⟩) (by assumption) ?restR4x18c
        case hyR4x18c => (intro w hSw; clear hSw; go_simp; try (with_reducible rfl))
        try simp only [Act.put, List.setIfInBounds_toArray, List.set_cons_zero, List.set_cons_succ]
        refine wpAnyT_takeB (i := 19) (oi := ⟨some 40, .load 40 (.tmp 8), _, _, _, _⟩) (v := undef) rfl (by kernel_rfl) (by kernel_rfl) (by kernel_rfl) (by kernel_rfl) (fun _ _ _ h => h) (Or.inr ⟨by rfl, rfl⟩) (by assumption) ?restR4x19c
        try simp only [Act.put, List.setIfInBounds_toArray, List.set_cons_zero, List.set_cons_succ]
        refine wpAnyT_takeB (i := 20) (oi := ⟨some 41, .move (.tmp 1), _, _, _, _⟩) (v := undef) rfl (by kernel_rfl) (by kernel_rfl) (by kernel_rfl) (by kernel_rfl) (fun _ _ _ h => h) (Or.inr ⟨by rfl, rfl⟩) (by assumption) ?restR4x20c
        try simp only [Act.put, List.setIfInBounds_toArray, List.set_cons_zero, List.set_cons_succ]
        refine wpAnyT_takeB (i := 22) (oi := ⟨some 43, .load 40 (.tmp 5), _, _, _, _⟩) (v := undef) rfl (by kernel_rfl) (by kernel_rfl) (by kernel_rfl) (by kernel_rfl) (fun _ _ _ h => h) (Or.inr ⟨by rfl, rfl⟩) (by assumption) ?restR4x22c
        try simp only [Act.put, List.setIfInBounds_toArray, List.set_cons_zero, List.set_cons_succ]
        refine wpAnyT_takeB (i := 23) (oi := ⟨some 44, .move (.tmp 1), _, _, _, _⟩) (v := undef) rfl (by kernel_rfl) (by kernel_rfl) (by kernel_rfl) (by kernel_rfl) (fun _ _ _ h => h) (Or.inr ⟨by rfl, rfl⟩) (by assumption) ?restR4x23c
        try simp only [Act.put, List.setIfInBounds_toArray, List.set_cons_zero, List.set_cons_succ]
        refine wpAnyT_one (i := 21) (o := ⟨some 42, .call { callee := .value (.func 13), args := #[.tmp 40, .tmp 41], argTypes := #[40, 27] }, _, _, _, _⟩) (by kernel_rfl) rfl (fun K hK => ?_)
        go_simp
        refine hK.out _ _ ⟨hHeld.1, fun _ => trivial⟩ ?_
        clear hK K
        try simp only [Act.put, List.setIfInBounds_toArray, List.set_cons_zero, List.set_cons_succ]
        refine wpAnyT_one (i := 24) (o := ⟨some 45, .call { callee := .value (.func 13), args := #[.tmp 43, .tmp 44], argTypes := #[40, 27] }, _, _, _, _⟩) (by kernel_rfl) rfl (fun K hK => ?_)
        go_simp
        refine hK.out _ _ ⟨hHeld.1, fun _ => trivial⟩ ?_
        clear hK K
        try simp only [Act.put, List.setIfInBounds_toArray, List.set_cons_zero, List.set_cons_succ]
        refine wpAnyT_takeB (i := 25) (oi := ⟨some 46, .move (.tmp 45), _, _, _, _⟩) (v := undef) rfl (by kernel_rfl) (by kernel_rfl) (by kernel_rfl) (by kernel_rfl) (fun _ _ _ h => h) (Or.inr ⟨by rfl, rfl⟩) (by assumption) ?restR4x25c
        try simp only [Act.put, List.setIfInBounds_toArray, List.set_cons_zero, List.set_cons_succ]
        refine wpAnyT_takeB (i := 26) (oi := ⟨some 47, .load 40 (.tmp 7), _, _, _, _⟩) (v := undef) rfl (by kernel_rfl) (by kernel_rfl) (by kernel_rfl) (by kernel_rfl) (fun _ _ _ h => h) (Or.inr ⟨by rfl, rfl⟩) (by assumption) ?restR4x26c
        try simp only [Act.put, List.setIfInBounds_toArray, List.set_cons_zero, List.set_cons_succ]
        refine wpAnyT_takeB (i := 27) (oi := ⟨some 48, .move (.tmp 1), _, _, _, _⟩) (v := undef) rfl (by kernel_rfl) (by kernel_rfl) (by kernel_rfl) (by kernel_rfl) (fun _ _ _ h => h) (Or.inr ⟨by rfl, rfl⟩) (by assumption) ?restR4x27c
        try simp only [Act.put, List.setIfInBounds_toArray, List.set_cons_zero, List.set_cons_succ]
        refine wpAnyT_one (i := 28) (o := ⟨some 49, .call { callee := .value (.func 13), args := #[.tmp 47, .tmp 48], argTypes := #[40, 27] }, _, _, _, _⟩) (by kernel_rfl) rfl (fun K hK => ?_)
        go_simp
        refine hK.out _ _ ⟨hHeld.1, fun _ => trivial⟩ ?_
        clear hK K
        try simp only [Act.put, List.setIfInBounds_toArray, List.set_cons_zero, List.set_cons_succ]
        refine wpAnyT_takeB (i := 29) (oi := ⟨some 50, .pick (.tmp 46) ((.const (.bool true))) (.tmp 49), _, _, _, _⟩) (v := undef) rfl (by kernel_rfl) (by kernel_rfl) (by kernel_rfl) (by kernel_rfl) (fun _ _ _ h => h) (Or.inr ⟨by rfl, rfl⟩) (by assumption) ?restR4x29c
        try simp only [Act.put, List.setIfInBounds_toArray, List.set_cons_zero, List.set_cons_succ]
        refine wpAnyT_takeB (i := 30) (oi := ⟨some 51, .binOp .neq 4 (.tmp 42) (.tmp 50) 4, _, _, _, _⟩) (v := undef) rfl (by kernel_rfl) (by kernel_rfl) (by kernel_rfl) (by kernel_rfl) (fun _ _ _ h => h) (Or.inr ⟨by rfl, rfl⟩) (by assumption) ?restR4x30c
        try simp only [Act.put, List.setIfInBounds_toArray, List.set_cons_zero, List.set_cons_succ]
        refine wpAnyT_takeB (i := 31) (oi := ⟨some 52, .pick (.tmp 39) (.tmp 51) ((.const (.bool false))), _, _, _, _⟩) (v := ?vR4x31c) rfl (by kernel_rfl) (by kernel_rfl) (by kernel_rfl) (by kernel_rfl) (fun _ _ _ h => h) (Or.inl ⟨by rfl, ?hyR4x31c⟩) (by assumption) ?restR4x31c
        case hyR4x31c => (intro w hSw; clear hSw; go_simp; try (with_reducible rfl))
        try simp only [Act.put, List.setIfInBounds_toArray, List.set_cons_zero, List.set_cons_succ]
        refine wpAnyT_done (by kernel_rfl) ?_ _

        go_wp2_with fail
        go_meet
        exact ⟨rfl, hHeld.1⟩
      by_cases k2 : 1000000000 < c.k
      · have k1B : -1000000000 ≤ c.k := by omega
        have k2B : ¬ c.k ≤ 1000000000 := by omega
        refine wp_region_T (S4 w.heap.size x1 x2 x3 x4 (#[.int .i64 c.kind, .int .i64 c.op, .slice ta c.terms.length tc, .int .i64 c.k, .int .i64 c.v, .int .i64 c.x, .int .i64 c.y, .slice xa c.xs.length xc, .slice ba c.table.length bc, .slice ra c.rows.length rc]) (#[.int .i64 c.kind, .int .i64 1, .slice ta c.terms.length tc, .int .i64 c.k, .int .i64 c.v, .int .i64 c.x, .int .i64 c.y, .slice xa c.xs.length xc, .slice ba c.table.length bc, .slice ra c.rows.length rc]) (#[.int .i64 c.kind, .int .i64 2, .slice ta c.terms.length tc, .int .i64 c.k, .int .i64 c.v, .int .i64 c.x, .int .i64 c.y, .slice xa c.xs.length xc, .slice ba c.table.length bc, .slice ra c.rows.length rc]) (#[.int .i64 c.kind, .int .i64 3, .slice ta c.terms.length tc, .int .i64 c.k, .int .i64 c.v, .int .i64 c.x, .int .i64 c.y, .slice xa c.xs.length xc, .slice ba c.table.length bc, .slice ra c.rows.length rc]) (#[.int .i64 c.kind, .int .i64 1, .slice ta c.terms.length tc, .int .i64 (c.xs.length : Int), .int .i64 c.v, .int .i64 c.x, .int .i64 c.y, .slice xa c.xs.length xc, .slice ba c.table.length bc, .slice ra c.rows.length rc]) V5) (fun _ => True) [] (by kernel_rfl) ⟨HS5.out.next (Below.refl _ _).drew, trivial⟩ (fun hHeld => ?_)
        refine wpAnyT_takeB (i := 0) (oi := ⟨some 21, .fieldAddr 40 (.tmp 2) 1, _, _, _, _⟩) (v := ?vR4x0d) rfl (by kernel_rfl) (by kernel_rfl) (by kernel_rfl) (by kernel_rfl) (fun _ _ _ h => h) (Or.inl ⟨by rfl, ?hyR4x0d⟩) (by assumption) ?restR4x0d
        case hyR4x0d => (intro w hSw; clear hSw; go_simp; try (with_reducible rfl))
        try simp only [Act.put, List.setIfInBounds_toArray, List.set_cons_zero, List.set_cons_succ]
        refine wpAnyT_takeB (i := 1) (oi := ⟨some 22, .load 3 (.tmp 21), _, _, _, _⟩) (v := ?vR4x1d) rfl (by kernel_rfl) (by kernel_rfl) (by kernel_rfl) (by kernel_rfl) (fun _ _ _ h => h) (Or.inl ⟨by rfl, ?hyR4x1d⟩) (by assumption) ?restR4x1d
        case hyR4x1d => (intro w hSw; obtain ⟨⟨p0, p1, p2, p3, p4, p5, p6, p7, p8, p9⟩, _⟩ := box10 hSw.n; go_simp; try (with_reducible rfl))
        try simp only [Act.put, List.setIfInBounds_toArray, List.set_cons_zero, List.set_cons_succ]
        refine wpAnyT_takeB (i := 2) (oi := ⟨some 23, .binOp .geq 3 (.tmp 22) ((.const (.int .i64 1))) 3, _, _, _, _⟩) (v := ?vR4x2d) rfl (by kernel_rfl) (by kernel_rfl) (by kernel_rfl) (by kernel_rfl) (fun _ _ _ h => h) (Or.inl ⟨by rfl, ?hyR4x2d⟩) (by assumption) ?restR4x2d
        case hyR4x2d => (intro w hSw; clear hSw; go_simp; try (with_reducible rfl))
        try simp only [Act.put, List.setIfInBounds_toArray, List.set_cons_zero, List.set_cons_succ]
        refine wpAnyT_takeB (i := 3) (oi := ⟨some 24, .move (.tmp 23), _, _, _, _⟩) (v := ?vR4x3d) rfl (by kernel_rfl) (by kernel_rfl) (by kernel_rfl) (by kernel_rfl) (fun _ _ _ h => h) (Or.inl ⟨by rfl, ?hyR4x3d⟩) (by assumption) ?restR4x3d
        case hyR4x3d => (intro w hSw; clear hSw; go_simp; try (with_reducible rfl))
        try simp only [Act.put, List.setIfInBounds_toArray, List.set_cons_zero, List.set_cons_succ]
        refine wpAnyT_takeB (i := 4) (oi := ⟨some 25, .fieldAddr 40 (.tmp 2) 1, _, _, _, _⟩) (v := ?vR4x4d) rfl (by kernel_rfl) (by kernel_rfl) (by kernel_rfl) (by kernel_rfl) (fun _ _ _ h => h) (Or.inl ⟨by rfl, ?hyR4x4d⟩) (by assumption) ?restR4x4d
        case hyR4x4d => (intro w hSw; clear hSw; go_simp; try (with_reducible rfl))
        try simp only [Act.put, List.setIfInBounds_toArray, List.set_cons_zero, List.set_cons_succ]
        refine wpAnyT_takeB (i := 5) (oi := ⟨some 26, .load 3 (.tmp 25), _, _, _, _⟩) (v := ?vR4x5d) rfl (by kernel_rfl) (by kernel_rfl) (by kernel_rfl) (by kernel_rfl) (fun _ _ _ h => h) (Or.inl ⟨by rfl, ?hyR4x5d⟩) (by assumption) ?restR4x5d
        case hyR4x5d => (intro w hSw; obtain ⟨⟨p0, p1, p2, p3, p4, p5, p6, p7, p8, p9⟩, _⟩ := box10 hSw.n; go_simp; try (with_reducible rfl))
        try simp only [Act.put, List.setIfInBounds_toArray, List.set_cons_zero, List.set_cons_succ]
        refine wpAnyT_takeB (i := 6) (oi := ⟨some 27, .binOp .leq 3 (.tmp 26) ((.const (.int .i64 3))) 3, _, _, _, _⟩) (v := ?vR4x6d) rfl (by kernel_rfl) (by kernel_rfl) (by kernel_rfl) (by kernel_rfl) (fun _ _ _ h => h) (Or.inl ⟨by rfl, ?hyR4x6d⟩) (by assumption) ?restR4x6d
        case hyR4x6d => (intro w hSw; clear hSw; go_simp; try (with_reducible rfl))
        try simp only [Act.put, List.setIfInBounds_toArray, List.set_cons_zero, List.set_cons_succ]
        refine wpAnyT_takeB (i := 7) (oi := ⟨some 28, .pick (.tmp 24) (.tmp 27) ((.const (.bool false))), _, _, _, _⟩) (v := ?vR4x7d) rfl (by kernel_rfl) (by kernel_rfl) (by kernel_rfl) (by kernel_rfl) (fun _ _ _ h => h) (Or.inl ⟨by rfl, ?hyR4x7d⟩) (by assumption) ?restR4x7d
        case hyR4x7d => (intro w hSw; clear hSw; go_simp; try (with_reducible rfl))
        try simp only [Act.put, List.setIfInBounds_toArray, List.set_cons_zero, List.set_cons_succ]
        refine wpAnyT_takeB (i := 8) (oi := ⟨some 29, .move (.tmp 28), _, _, _, _⟩) (v := ?vR4x8d) rfl (by kernel_rfl) (by kernel_rfl) (by kernel_rfl) (by kernel_rfl) (fun _ _ _ h => h) (Or.inl ⟨by rfl, ?hyR4x8d⟩) (by assumption) ?restR4x8d
        case hyR4x8d => (intro w hSw; clear hSw; go_simp; try (with_reducible rfl))
        try simp only [Act.put, List.setIfInBounds_toArray, List.set_cons_zero, List.set_cons_succ]
        refine wpAnyT_takeB (i := 9) (oi := ⟨some 30, .fieldAddr 40 (.tmp 2) 3, _, _, _, _⟩) (v := ?vR4x9d) rfl (by kernel_rfl) (by kernel_rfl) (by kernel_rfl) (by kernel_rfl) (fun _ _ _ h => h) (Or.inl ⟨by rfl, ?hyR4x9d⟩) (by assumption) ?restR4x9d
        case hyR4x9d => (intro w hSw; clear hSw; go_simp; try (with_reducible rfl))
        try simp only [Act.put, List.setIfInBounds_toArray, List.set_cons_zero, List.set_cons_succ]
        refine wpAnyT_takeB (i := 10) (oi := ⟨some 31, .load 3 (.tmp 30), _, _, _, _⟩) (v := ?vR4x10d) rfl (by kernel_rfl) (by kernel_rfl) (by kernel_rfl) (by kernel_rfl) (fun _ _ _ h => h) (Or.inl ⟨by rfl, ?hyR4x10d⟩) (by assumption) ?restR4x10d
        case hyR4x10d => (intro w hSw; obtain ⟨⟨p0, p1, p2, p3, p4, p5, p6, p7, p8, p9⟩, _⟩ := box10 hSw.n; go_simp; try (with_reducible rfl))
        try simp only [Act.put, List.setIfInBounds_toArray, List.set_cons_zero, List.set_cons_succ]
        refine wpAnyT_takeB (i := 11) (oi := ⟨some 32, .binOp .geq 3 (.tmp 31) ((.const (.int .i64 (-1000000000)))) 3, _, _, _, _⟩) (v := ?vR4x11d) rfl (by kernel_rfl) (by kernel_rfl) (by kernel_rfl) (by kernel_rfl) (fun _ _ _ h => h) (Or.inl ⟨by rfl, ?hyR4x11d⟩) (by assumption) ?restR4x11d
        case hyR4x11d => (intro w hSw; clear hSw; go_simp; try (with_reducible rfl))
        try simp only [Act.put, List.setIfInBounds_toArray, List.set_cons_zero, List.set_cons_succ]
        refine wpAnyT_takeB (i := 12) (oi := ⟨some 33, .pick (.tmp 29) (.tmp 32) ((.const (.bool false))), _, _, _, _⟩) (v := ?vR4x12d) rfl (by kernel_rfl) (by kernel_rfl) (by kernel_rfl) (by kernel_rfl) (fun _ _ _ h => h) (Or.inl ⟨by rfl, ?hyR4x12d⟩) (by assumption) ?restR4x12d
        case hyR4x12d => (intro w hSw; clear hSw; go_simp; try (with_reducible rfl))
        try simp only [Act.put, List.setIfInBounds_toArray, List.set_cons_zero, List.set_cons_succ]
        refine wpAnyT_takeB (i := 13) (oi := ⟨some 34, .move (.tmp 33), _, _, _, _⟩) (v := ?vR4x13d) rfl (by kernel_rfl) (by kernel_rfl) (by kernel_rfl) (by kernel_rfl) (fun _ _ _ h => h) (Or.inl ⟨by rfl, ?hyR4x13d⟩) (by assumption) ?restR4x13d
        case hyR4x13d => (intro w hSw; clear hSw; go_simp; try (with_reducible rfl))
        try simp only [Act.put, List.setIfInBounds_toArray, List.set_cons_zero, List.set_cons_succ]
        refine wpAnyT_takeB (i := 14) (oi := ⟨some 35, .fieldAddr 40 (.tmp 2) 3, _, _, _, _⟩) (v := ?vR4x14d) rfl (by kernel_rfl) (by kernel_rfl) (by kernel_rfl) (by kernel_rfl) (fun _ _ _ h => h) (Or.inl ⟨by rfl, ?hyR4x14d⟩) (by assumption) ?restR4x14d
        case hyR4x14d => (intro w hSw; clear hSw; go_simp; try (with_reducible rfl))
        try simp only [Act.put, List.setIfInBounds_toArray, List.set_cons_zero, List.set_cons_succ]
        refine wpAnyT_takeB (i := 15) (oi := ⟨some 36, .load 3 (.tmp 35), _, _, _, _⟩) (v := ?vR4x15d) rfl (by kernel_rfl) (by kernel_rfl) (by kernel_rfl) (by kernel_rfl) (fun _ _ _ h => h) (Or.inl ⟨by rfl, ?hyR4x15d⟩) (by assumption) ?restR4x15d
        case hyR4x15d => (intro w hSw; obtain ⟨⟨p0, p1, p2, p3, p4, p5, p6, p7, p8, p9⟩, _⟩ := box10 hSw.n; go_simp; try (with_reducible rfl))
        try simp only [Act.put, List.setIfInBounds_toArray, List.set_cons_zero, List.set_cons_succ]
        refine wpAnyT_takeB (i := 16) (oi := ⟨some 37, .binOp .leq 3 (.tmp 36) ((.const (.int .i64 1000000000))) 3, _, _, _, _⟩) (v := ?vR4x16d) rfl (by kernel_rfl) (by kernel_rfl) (by kernel_rfl) (by kernel_rfl) (fun _ _ _ h => h) (Or.inl ⟨by rfl, ?hyR4x16d⟩) (by assumption) ?restR4x16d
        case hyR4x16d => (intro w hSw; clear hSw; go_simp; try (with_reducible rfl))
        try simp only [Act.put, List.setIfInBounds_toArray, List.set_cons_zero, List.set_cons_succ]
        refine wpAnyT_takeB (i := 17) (oi := ⟨some 38, .pick (.tmp 34) (.tmp 37) ((.const (.bool false))), _, _, _, _⟩) (v := ?vR4x17d) rfl (by kernel_rfl) (by kernel_rfl) (by kernel_rfl) (by kernel_rfl) (fun _ _ _ h => h) (Or.inl ⟨by rfl, ?hyR4x17d⟩) (by assumption) ?restR4x17d
        case hyR4x17d => (intro w hSw; clear hSw; go_simp; try (with_reducible rfl))
        try simp only [Act.put, List.setIfInBounds_toArray, List.set_cons_zero, List.set_cons_succ]
        refine wpAnyT_takeB (i := 18) (oi := ⟨some 39, .move (.tmp 38), _, _, _, _⟩) (v := ?vR4x18d) rfl (by kernel_rfl) (by kernel_rfl) (by kernel_rfl) (by kernel_rfl) (fun _ _ _ h => h) (Or.inl ⟨by rfl, ?hyR4x18d⟩) (by assumption) ?restR4x18d
        case hyR4x18d => (intro w hSw; clear hSw; go_simp; try (with_reducible rfl))
        try simp only [Act.put, List.setIfInBounds_toArray, List.set_cons_zero, List.set_cons_succ]
        refine wpAnyT_takeB (i := 19) (oi := ⟨some 40, .load 40 (.tmp 8), _, _, _, _⟩) (v := undef) rfl (by kernel_rfl) (by kernel_rfl) (by kernel_rfl) (by kernel_rfl) (fun _ _ _ h => h) (Or.inr ⟨by rfl, rfl⟩) (by assumption) ?restR4x19d
        try simp only [Act.put, List.setIfInBounds_toArray, List.set_cons_zero, List.set_cons_succ]
        refine wpAnyT_takeB (i := 20) (oi := ⟨some 41, .move (.tmp 1), _, _, _, _⟩) (v := undef) rfl (by kernel_rfl) (by kernel_rfl) (by kernel_rfl) (by kernel_rfl) (fun _ _ _ h => h) (Or.inr ⟨by rfl, rfl⟩) (by assumption) ?restR4x20d
        try simp only [Act.put, List.setIfInBounds_toArray, List.set_cons_zero, List.set_cons_succ]
        refine wpAnyT_takeB (i := 22) (oi := ⟨some 43, .load 40 (.tmp 5), _, _, _, _⟩) (v := undef) rfl (by kernel_rfl) (by kernel_rfl) (by kernel_rfl) (by kernel_rfl) (fun _ _ _ h => h) (Or.inr ⟨by rfl, rfl⟩) (by assumption) ?restR4x22d
        try simp only [Act.put, List.setIfInBounds_toArray, List.set_cons_zero, List.set_cons_succ]
        refine wpAnyT_takeB (i := 23) (oi := ⟨some 44, .move (.tmp 1), _, _, _, _⟩) (v := undef) rfl (by kernel_rfl) (by kernel_rfl) (by kernel_rfl) (by kernel_rfl) (fun _ _ _ h => h) (Or.inr ⟨by rfl, rfl⟩) (by assumption) ?restR4x23d
        try simp only [Act.put, List.setIfInBounds_toArray, List.set_cons_zero, List.set_cons_succ]
        refine wpAnyT_one (i := 21) (o := ⟨some 42, .call { callee := .value (.func 13), args := #[.tmp 40, .tmp 41], argTypes := #[40, 27] }, _, _, _, _⟩) (by kernel_rfl) rfl (fun K hK => ?_)
        go_simp
        refine hK.out _ _ ⟨hHeld.1, fun _ => trivial⟩ ?_
        clear hK K
        try simp only [Act.put, List.setIfInBounds_toArray, List.set_cons_zero, List.set_cons_succ]
        refine wpAnyT_one (i := 24) (o := ⟨some 45, .call { callee := .value (.func 13), args := #[.tmp 43, .tmp 44], argTypes := #[40, 27] }, _, _, _, _⟩) (by kernel_rfl) rfl (fun K hK => ?_)
        go_simp
        refine hK.out _ _ ⟨hHeld.1, fun _ => trivial⟩ ?_
        clear hK K
        try simp only [Act.put, List.setIfInBounds_toArray, List.set_cons_zero, List.set_cons_succ]
        refine wpAnyT_takeB (i := 25) (oi := ⟨some 46, .move (.tmp 45), _, _, _, _⟩) (v := undef) rfl (by kernel_rfl) (by kernel_rfl) (by kernel_rfl) (by kernel_rfl) (fun _ _ _ h => h) (Or.inr ⟨by rfl, rfl⟩) (by assumption) ?restR4x25d
        try simp only [Act.put, List.setIfInBounds_toArray, List.set_cons_zero, List.set_cons_succ]
        refine wpAnyT_takeB (i := 26) (oi := ⟨some 47, .load 40 (.tmp 7), _, _, _, _⟩) (v := undef) rfl (by kernel_rfl) (by kernel_rfl) (by kernel_rfl) (by kernel_rfl) (fun _ _ _ h => h) (Or.inr ⟨by rfl, rfl⟩) (by assumption) ?restR4x26d
        try simp only [Act.put, List.setIfInBounds_toArray, List.set_cons_zero, List.set_cons_succ]
        refine wpAnyT_takeB (i := 27) (oi := ⟨some 48, .move (.tmp 1), _, _, _, _⟩) (v := undef) rfl (by kernel_rfl) (by kernel_rfl) (by kernel_rfl) (by kernel_rfl) (fun _ _ _ h => h) (Or.inr ⟨by rfl, rfl⟩) (by assumption) ?restR4x27d
        try simp only [Act.put, List.setIfInBounds_toArray, List.set_cons_zero, List.set_cons_succ]
        refine wpAnyT_one (i := 28) (o := ⟨some 49, .call { callee := .value (.func 13), args := #[.tmp 47, .tmp 48], argTypes := #[40, 27] }, _, _, _, _⟩) (by kernel_rfl) rfl (fun K hK => ?_)
        go_simp
        refine hK.out _ _ ⟨hHeld.1, fun _ => trivial⟩ ?_
        clear hK K
        try simp only [Act.put, List.setIfInBounds_toArray, List.set_cons_zero, List.set_cons_succ]
        refine wpAnyT_takeB (i := 29) (oi := ⟨some 50, .pick (.tmp 46) ((.const (.bool true))) (.tmp 49), _, _, _, _⟩) (v := undef) rfl (by kernel_rfl) (by kernel_rfl) (by kernel_rfl) (by kernel_rfl) (fun _ _ _ h => h) (Or.inr ⟨by rfl, rfl⟩) (by assumption) ?restR4x29d
        try simp only [Act.put, List.setIfInBounds_toArray, List.set_cons_zero, List.set_cons_succ]
        refine wpAnyT_takeB (i := 30) (oi := ⟨some 51, .binOp .neq 4 (.tmp 42) (.tmp 50) 4, _, _, _, _⟩) (v := undef) rfl (by kernel_rfl) (by kernel_rfl) (by kernel_rfl) (by kernel_rfl) (fun _ _ _ h => h) (Or.inr ⟨by rfl, rfl⟩) (by assumption) ?restR4x30d
        try simp only [Act.put, List.setIfInBounds_toArray, List.set_cons_zero, List.set_cons_succ]
        refine wpAnyT_takeB (i := 31) (oi := ⟨some 52, .pick (.tmp 39) (.tmp 51) ((.const (.bool false))), _, _, _, _⟩) (v := ?vR4x31d) rfl (by kernel_rfl) (by kernel_rfl) (by kernel_rfl) (by kernel_rfl) (fun _ _ _ h => h) (Or.inl ⟨by rfl, ?hyR4x31d⟩) (by assumption) ?restR4x31d
        case hyR4x31d => (intro w hSw; clear hSw; go_simp; try (with_reducible rfl))
        try simp only [Act.put, List.setIfInBounds_toArray, List.set_cons_zero, List.set_cons_succ]
        refine wpAnyT_done (by kernel_rfl) ?_ _

        go_wp2_with fail
        go_meet
        exact ⟨rfl, hHeld.1⟩
      have k1B : -1000000000 ≤ c.k := by omega
      have k2B : c.k ≤ 1000000000 := by omega
      have HAll := Md.holds_all (vs := l) HK.out (by simp [Md.numB]; omega) hl
      cases hle : Md.holds { c with op := 1 } l
      · rw [hle, Bool.false_or] at HAll
        obtain ⟨bg, hbg⟩ : ∃ b, Md.holds { c with op := 3 } l = b := ⟨_, rfl⟩
        rw [hbg] at HAll
        have HA : Hid (∀ w', (S4 w.heap.size x1 x2 x3 x4 (#[.int .i64 c.kind, .int .i64 c.op, .slice ta c.terms.length tc, .int .i64 c.k, .int .i64 c.v, .int .i64 c.x, .int .i64 c.y, .slice xa c.xs.length xc, .slice ba c.table.length bc, .slice ra c.rows.length rc]) (#[.int .i64 c.kind, .int .i64 1, .slice ta c.terms.length tc, .int .i64 c.k, .int .i64 c.v, .int .i64 c.x, .int .i64 c.y, .slice xa c.xs.length xc, .slice ba c.table.length bc, .slice ra c.rows.length rc]) (#[.int .i64 c.kind, .int .i64 2, .slice ta c.terms.length tc, .int .i64 c.k, .int .i64 c.v, .int .i64 c.x, .int .i64 c.y, .slice xa c.xs.length xc, .slice ba c.table.length bc, .slice ra c.rows.length rc]) (#[.int .i64 c.kind, .int .i64 3, .slice ta c.terms.length tc, .int .i64 c.k, .int .i64 c.v, .int .i64 c.x, .int .i64 c.y, .slice xa c.xs.length xc, .slice ba c.table.length bc, .slice ra c.rows.length rc]) (#[.int .i64 c.kind, .int .i64 1, .slice ta c.terms.length tc, .int .i64 (c.xs.length : Int), .int .i64 c.v, .int .i64 c.x, .int .i64 c.y, .slice xa c.xs.length xc, .slice ba c.table.length bc, .slice ra c.rows.length rc]) V5) w' → Calls Try.prog 13 #[.agg #[.int .i64 c.kind, .int .i64 1, .slice ta c.terms.length tc, .int .i64 (c.xs.length : Int), .int .i64 c.v, .int .i64 c.x, .int .i64 c.y, .slice xa c.xs.length xc, .slice ba c.table.length bc, .slice ra c.rows.length rc], .slice qa l.length qc] w' fun e w'' => e = .returned (.bool bg) ∧ Below w'.heap.size w' w'') := by
          have h := HA0.out
          rw [HAll] at h
          exact h
        have HL : Hid (∀ w', (S4 w.heap.size x1 x2 x3 x4 (#[.int .i64 c.kind, .int .i64 c.op, .slice ta c.terms.length tc, .int .i64 c.k, .int .i64 c.v, .int .i64 c.x, .int .i64 c.y, .slice xa c.xs.length xc, .slice ba c.table.length bc, .slice ra c.rows.length rc]) (#[.int .i64 c.kind, .int .i64 1, .slice ta c.terms.length tc, .int .i64 c.k, .int .i64 c.v, .int .i64 c.x, .int .i64 c.y, .slice xa c.xs.length xc, .slice ba c.table.length bc, .slice ra c.rows.length rc]) (#[.int .i64 c.kind, .int .i64 2, .slice ta c.terms.length tc, .int .i64 c.k, .int .i64 c.v, .int .i64 c.x, .int .i64 c.y, .slice xa c.xs.length xc, .slice ba c.table.length bc, .slice ra c.rows.length rc]) (#[.int .i64 c.kind, .int .i64 3, .slice ta c.terms.length tc, .int .i64 c.k, .int .i64 c.v, .int .i64 c.x, .int .i64 c.y, .slice xa c.xs.length xc, .slice ba c.table.length bc, .slice ra c.rows.length rc]) (#[.int .i64 c.kind, .int .i64 1, .slice ta c.terms.length tc, .int .i64 (c.xs.length : Int), .int .i64 c.v, .int .i64 c.x, .int .i64 c.y, .slice xa c.xs.length xc, .slice ba c.table.length bc, .slice ra c.rows.length rc]) V5) w' → Calls Try.prog 13 #[.agg #[.int .i64 c.kind, .int .i64 1, .slice ta c.terms.length tc, .int .i64 c.k, .int .i64 c.v, .int .i64 c.x, .int .i64 c.y, .slice xa c.xs.length xc, .slice ba c.table.length bc, .slice ra c.rows.length rc], .slice qa l.length qc] w' fun e w'' => e = .returned (.bool false) ∧ Below w'.heap.size w' w'') := by
          have h := HL0.out
          rw [hle] at h
          exact h
        have HG : Hid (∀ w', (S4 w.heap.size x1 x2 x3 x4 (#[.int .i64 c.kind, .int .i64 c.op, .slice ta c.terms.length tc, .int .i64 c.k, .int .i64 c.v, .int .i64 c.x, .int .i64 c.y, .slice xa c.xs.length xc, .slice ba c.table.length bc, .slice ra c.rows.length rc]) (#[.int .i64 c.kind, .int .i64 1, .slice ta c.terms.length tc, .int .i64 c.k, .int .i64 c.v, .int .i64 c.x, .int .i64 c.y, .slice xa c.xs.length xc, .slice ba c.table.length bc, .slice ra c.rows.length rc]) (#[.int .i64 c.kind, .int .i64 2, .slice ta c.terms.length tc, .int .i64 c.k, .int .i64 c.v, .int .i64 c.x, .int .i64 c.y, .slice xa c.xs.length xc, .slice ba c.table.length bc, .slice ra c.rows.length rc]) (#[.int .i64 c.kind, .int .i64 3, .slice ta c.terms.length tc, .int .i64 c.k, .int .i64 c.v, .int .i64 c.x, .int .i64 c.y, .slice xa c.xs.length xc, .slice ba c.table.length bc, .slice ra c.rows.length rc]) (#[.int .i64 c.kind, .int .i64 1, .slice ta c.terms.length tc, .int .i64 (c.xs.length : Int), .int .i64 c.v, .int .i64 c.x, .int .i64 c.y, .slice xa c.xs.length xc, .slice ba c.table.length bc, .slice ra c.rows.length rc]) V5) w' → Calls Try.prog 13 #[.agg #[.int .i64 c.kind, .int .i64 3, .slice ta c.terms.length tc, .int .i64 c.k, .int .i64 c.v, .int .i64 c.x, .int .i64 c.y, .slice xa c.xs.length xc, .slice ba c.table.length bc, .slice ra c.rows.length rc], .slice qa l.length qc] w' fun e w'' => e = .returned (.bool bg) ∧ Below w'.heap.size w' w'') := by
          have h := HG0.out
          rw [hbg] at h
          exact h
        clear HAll hle hbg
        refine wp_region_T (S4 w.heap.size x1 x2 x3 x4 (#[.int .i64 c.kind, .int .i64 c.op, .slice ta c.terms.length tc, .int .i64 c.k, .int .i64 c.v, .int .i64 c.x, .int .i64 c.y, .slice xa c.xs.length xc, .slice ba c.table.length bc, .slice ra c.rows.length rc]) (#[.int .i64 c.kind, .int .i64 1, .slice ta c.terms.length tc, .int .i64 c.k, .int .i64 c.v, .int .i64 c.x, .int .i64 c.y, .slice xa c.xs.length xc, .slice ba c.table.length bc, .slice ra c.rows.length rc]) (#[.int .i64 c.kind, .int .i64 2, .slice ta c.terms.length tc, .int .i64 c.k, .int .i64 c.v, .int .i64 c.x, .int .i64 c.y, .slice xa c.xs.length xc, .slice ba c.table.length bc, .slice ra c.rows.length rc]) (#[.int .i64 c.kind, .int .i64 3, .slice ta c.terms.length tc, .int .i64 c.k, .int .i64 c.v, .int .i64 c.x, .int .i64 c.y, .slice xa c.xs.length xc, .slice ba c.table.length bc, .slice ra c.rows.length rc]) (#[.int .i64 c.kind, .int .i64 1, .slice ta c.terms.length tc, .int .i64 (c.xs.length : Int), .int .i64 c.v, .int .i64 c.x, .int .i64 c.y, .slice xa c.xs.length xc, .slice ba c.table.length bc, .slice ra c.rows.length rc]) V5) (fun _ => True) [] (by kernel_rfl) ⟨HS5.out.next (Below.refl _ _).drew, trivial⟩ (fun hHeld => ?_)
        refine wpAnyT_takeB (i := 0) (oi := ⟨some 21, .fieldAddr 40 (.tmp 2) 1, _, _, _, _⟩) (v := ?vR4x0e) rfl (by kernel_rfl) (by kernel_rfl) (by kernel_rfl) (by kernel_rfl) (fun _ _ _ h => h) (Or.inl ⟨by rfl, ?hyR4x0e⟩) (by assumption) ?restR4x0e
        case hyR4x0e => (intro w hSw; clear hSw; go_simp; try (with_reducible rfl))
        try simp only [Act.put, List.setIfInBounds_toArray, List.set_cons_zero, List.set_cons_succ]
        refine wpAnyT_takeB (i := 1) (oi := ⟨some 22, .load 3 (.tmp 21), _, _, _, _⟩) (v := ?vR4x1e) rfl (by kernel_rfl) (by kernel_rfl) (by kernel_rfl) (by kernel_rfl) (fun _ _ _ h => h) (Or.inl ⟨by rfl, ?hyR4x1e⟩) (by assumption) ?restR4x1e
        case hyR4x1e => (intro w hSw; obtain ⟨⟨p0, p1, p2, p3, p4, p5, p6, p7, p8, p9⟩, _⟩ := box10 hSw.n; go_simp; try (with_reducible rfl))
        try simp only [Act.put, List.setIfInBounds_toArray, List.set_cons_zero, List.set_cons_succ]
        refine wpAnyT_takeB (i := 2) (oi := ⟨some 23, .binOp .geq 3 (.tmp 22) ((.const (.int .i64 1))) 3, _, _, _, _⟩) (v := ?vR4x2e) rfl (by kernel_rfl) (by kernel_rfl) (by kernel_rfl) (by kernel_rfl) (fun _ _ _ h => h) (Or.inl ⟨by rfl, ?hyR4x2e⟩) (by assumption) ?restR4x2e
        case hyR4x2e => (intro w hSw; clear hSw; go_simp; try (with_reducible rfl))
        try simp only [Act.put, List.setIfInBounds_toArray, List.set_cons_zero, List.set_cons_succ]
        refine wpAnyT_takeB (i := 3) (oi := ⟨some 24, .move (.tmp 23), _, _, _, _⟩) (v := ?vR4x3e) rfl (by kernel_rfl) (by kernel_rfl) (by kernel_rfl) (by kernel_rfl) (fun _ _ _ h => h) (Or.inl ⟨by rfl, ?hyR4x3e⟩) (by assumption) ?restR4x3e
        case hyR4x3e => (intro w hSw; clear hSw; go_simp; try (with_reducible rfl))
        try simp only [Act.put, List.setIfInBounds_toArray, List.set_cons_zero, List.set_cons_succ]
        refine wpAnyT_takeB (i := 4) (oi := ⟨some 25, .fieldAddr 40 (.tmp 2) 1, _, _, _, _⟩) (v := ?vR4x4e) rfl (by kernel_rfl) (by kernel_rfl) (by kernel_rfl) (by kernel_rfl) (fun _ _ _ h => h) (Or.inl ⟨by rfl, ?hyR4x4e⟩) (by assumption) ?restR4x4e
        case hyR4x4e => (intro w hSw; clear hSw; go_simp; try (with_reducible rfl))
        try simp only [Act.put, List.setIfInBounds_toArray, List.set_cons_zero, List.set_cons_succ]
        refine wpAnyT_takeB (i := 5) (oi := ⟨some 26, .load 3 (.tmp 25), _, _, _, _⟩) (v := ?vR4x5e) rfl (by kernel_rfl) (by kernel_rfl) (by kernel_rfl) (by kernel_rfl) (fun _ _ _ h => h) (Or.inl ⟨by rfl, ?hyR4x5e⟩) (by assumption) ?restR4x5e
        case hyR4x5e => (intro w hSw; obtain ⟨⟨p0, p1, p2, p3, p4, p5, p6, p7, p8, p9⟩, _⟩ := box10 hSw.n; go_simp; try (with_reducible rfl))
        try simp only [Act.put, List.setIfInBounds_toArray, List.set_cons_zero, List.set_cons_succ]
        refine wpAnyT_takeB (i := 6) (oi := ⟨some 27, .binOp .leq 3 (.tmp 26) ((.const (.int .i64 3))) 3, _, _, _, _⟩) (v := ?vR4x6e) rfl (by kernel_rfl) (by kernel_rfl) (by kernel_rfl) (by kernel_rfl) (fun _ _ _ h => h) (Or.inl ⟨by rfl, ?hyR4x6e⟩) (by assumption) ?restR4x6e
        case hyR4x6e => (intro w hSw; clear hSw; go_simp; try (with_reducible rfl))
        try simp only [Act.put, List.setIfInBounds_toArray, List.set_cons_zero, List.set_cons_succ]
        refine wpAnyT_takeB (i := 7) (oi := ⟨some 28, .pick (.tmp 24) (.tmp 27) ((.const (.bool false))), _, _, _, _⟩) (v := ?vR4x7e) rfl (by kernel_rfl) (by kernel_rfl) (by kernel_rfl) (by kernel_rfl) (fun _ _ _ h => h) (Or.inl ⟨by rfl, ?hyR4x7e⟩) (by assumption) ?restR4x7e
        case hyR4x7e => (intro w hSw; clear hSw; go_simp; try (with_reducible rfl))
        try simp only [Act.put, List.setIfInBounds_toArray, List.set_cons_zero, List.set_cons_succ]
        refine wpAnyT_takeB (i := 8) (oi := ⟨some 29, .move (.tmp 28), _, _, _, _⟩) (v := ?vR4x8e) rfl (by kernel_rfl) (by kernel_rfl) (by kernel_rfl) (by kernel_rfl) (fun _ _ _ h => h) (Or.inl ⟨by rfl, ?hyR4x8e⟩) (by assumption) ?restR4x8e
        case hyR4x8e => (intro w hSw; clear hSw; go_simp; try (with_reducible rfl))
        try simp only [Act.put, List.setIfInBounds_toArray, List.set_cons_zero, List.set_cons_succ]
        refine wpAnyT_takeB (i := 9) (oi := ⟨some 30, .fieldAddr 40 (.tmp 2) 3, _, _, _, _⟩) (v := ?vR4x9e) rfl (by kernel_rfl) (by kernel_rfl) (by kernel_rfl) (by kernel_rfl) (fun _ _ _ h => h) (Or.inl ⟨by rfl, ?hyR4x9e⟩) (by assumption) ?restR4x9e
        case hyR4x9e => (intro w hSw; clear hSw; go_simp; try (with_reducible rfl))
        try simp only [Act.put, List.setIfInBounds_toArray, List.set_cons_zero, List.set_cons_succ]
        refine wpAnyT_takeB (i := 10) (oi := ⟨some 31, .load 3 (.tmp 30), _, _, _, _⟩) (v := ?vR4x10e) rfl (by kernel_rfl) (by kernel_rfl) (by kernel_rfl) (by kernel_rfl) (fun _ _ _ h => h) (Or.inl ⟨by rfl, ?hyR4x10e⟩) (by assumption) ?restR4x10e
        case hyR4x10e => (intro w hSw; obtain ⟨⟨p0, p1, p2, p3, p4, p5, p6, p7, p8, p9⟩, _⟩ := box10 hSw.n; go_simp; try (with_reducible rfl))
        try simp only [Act.put, List.setIfInBounds_toArray, List.set_cons_zero, List.set_cons_succ]
        refine wpAnyT_takeB (i := 11) (oi := ⟨some 32, .binOp .geq 3 (.tmp 31) ((.const (.int .i64 (-1000000000)))) 3, _, _, _, _⟩) (v := ?vR4x11e) rfl (by kernel_rfl) (by kernel_rfl) (by kernel_rfl) (by kernel_rfl) (fun _ _ _ h => h) (Or.inl ⟨by rfl, ?hyR4x11e⟩) (by assumption) ?restR4x11e
        case hyR4x11e => (intro w hSw; clear hSw; go_simp; try (with_reducible rfl))
        try simp only [Act.put, List.setIfInBounds_toArray, List.set_cons_zero, List.set_cons_succ]
        refine wpAnyT_takeB (i := 12) (oi := ⟨some 33, .pick (.tmp 29) (.tmp 32) ((.const (.bool false))), _, _, _, _⟩) (v := ?vR4x12e) rfl (by kernel_rfl) (by kernel_rfl) (by kernel_rfl) (by kernel_rfl) (fun _ _ _ h => h) (Or.inl ⟨by rfl, ?hyR4x12e⟩) (by assumption) ?restR4x12e
        case hyR4x12e => (intro w hSw; clear hSw; go_simp; try (with_reducible rfl))
        try simp only [Act.put, List.setIfInBounds_toArray, List.set_cons_zero, List.set_cons_succ]
        refine wpAnyT_takeB (i := 13) (oi := ⟨some 34, .move (.tmp 33), _, _, _, _⟩) (v := ?vR4x13e) rfl (by kernel_rfl) (by kernel_rfl) (by kernel_rfl) (by kernel_rfl) (fun _ _ _ h => h) (Or.inl ⟨by rfl, ?hyR4x13e⟩) (by assumption) ?restR4x13e
        case hyR4x13e => (intro w hSw; clear hSw; go_simp; try (with_reducible rfl))
        try simp only [Act.put, List.setIfInBounds_toArray, List.set_cons_zero, List.set_cons_succ]
        refine wpAnyT_takeB (i := 14) (oi := ⟨some 35, .fieldAddr 40 (.tmp 2) 3, _, _, _, _⟩) (v := ?vR4x14e) rfl (by kernel_rfl) (by kernel_rfl) (by kernel_rfl) (by kernel_rfl) (fun _ _ _ h => h) (Or.inl ⟨by rfl, ?hyR4x14e⟩) (by assumption) ?restR4x14e
        case hyR4x14e => (intro w hSw; clear hSw; go_simp; try (with_reducible rfl))
        try simp only [Act.put, List.setIfInBounds_toArray, List.set_cons_zero, List.set_cons_succ]
        refine wpAnyT_takeB (i := 15) (oi := ⟨some 36, .load 3 (.tmp 35), _, _, _, _⟩) (v := ?vR4x15e) rfl (by kernel_rfl) (by kernel_rfl) (by kernel_rfl) (by kernel_rfl) (fun _ _ _ h => h) (Or.inl ⟨by rfl, ?hyR4x15e⟩) (by assumption) ?restR4x15e
        case hyR4x15e => (intro w hSw; obtain ⟨⟨p0, p1, p2, p3, p4, p5, p6, p7, p8, p9⟩, _⟩ := box10 hSw.n; go_simp; try (with_reducible rfl))
        try simp only [Act.put, List.setIfInBounds_toArray, List.set_cons_zero, List.set_cons_succ]
        refine wpAnyT_takeB (i := 16) (oi := ⟨some 37, .binOp .leq 3 (.tmp 36) ((.const (.int .i64 1000000000))) 3, _, _, _, _⟩) (v := ?vR4x16e) rfl (by kernel_rfl) (by kernel_rfl) (by kernel_rfl) (by kernel_rfl) (fun _ _ _ h => h) (Or.inl ⟨by rfl, ?hyR4x16e⟩) (by assumption) ?restR4x16e
        case hyR4x16e => (intro w hSw; clear hSw; go_simp; try (with_reducible rfl))
        try simp only [Act.put, List.setIfInBounds_toArray, List.set_cons_zero, List.set_cons_succ]
        refine wpAnyT_takeB (i := 17) (oi := ⟨some 38, .pick (.tmp 34) (.tmp 37) ((.const (.bool false))), _, _, _, _⟩) (v := ?vR4x17e) rfl (by kernel_rfl) (by kernel_rfl) (by kernel_rfl) (by kernel_rfl) (fun _ _ _ h => h) (Or.inl ⟨by rfl, ?hyR4x17e⟩) (by assumption) ?restR4x17e
        case hyR4x17e => (intro w hSw; clear hSw; go_simp; try (with_reducible rfl))
        try simp only [Act.put, List.setIfInBounds_toArray, List.set_cons_zero, List.set_cons_succ]
        refine wpAnyT_takeB (i := 18) (oi := ⟨some 39, .move (.tmp 38), _, _, _, _⟩) (v := ?vR4x18e) rfl (by kernel_rfl) (by kernel_rfl) (by kernel_rfl) (by kernel_rfl) (fun _ _ _ h => h) (Or.inl ⟨by rfl, ?hyR4x18e⟩) (by assumption) ?restR4x18e
        case hyR4x18e => (intro w hSw; clear hSw; go_simp; try (with_reducible rfl))
        try simp only [Act.put, List.setIfInBounds_toArray, List.set_cons_zero, List.set_cons_succ]
        refine wpAnyT_takeB (i := 19) (oi := ⟨some 40, .load 40 (.tmp 8), _, _, _, _⟩) (v := ?vR4x19e) rfl (by kernel_rfl) (by kernel_rfl) (by kernel_rfl) (by kernel_rfl) (fun _ _ _ h => h) (Or.inl ⟨by rfl, ?hyR4x19e⟩) (by assumption) ?restR4x19e
        case hyR4x19e => (intro w hSw; obtain ⟨⟨p0, p1, p2, p3, p4, p5, p6, p7, p8, p9⟩, _⟩ := box10 hSw.b4; go_simp; try (with_reducible rfl))
        try simp only [Act.put, List.setIfInBounds_toArray, List.set_cons_zero, List.set_cons_succ]
        refine wpAnyT_takeB (i := 20) (oi := ⟨some 41, .move (.tmp 1), _, _, _, _⟩) (v := ?vR4x20e) rfl (by kernel_rfl) (by kernel_rfl) (by kernel_rfl) (by kernel_rfl) (fun _ _ _ h => h) (Or.inl ⟨by rfl, ?hyR4x20e⟩) (by assumption) ?restR4x20e
        case hyR4x20e => (intro w hSw; clear hSw; go_simp; try (with_reducible rfl))
        try simp only [Act.put, List.setIfInBounds_toArray, List.set_cons_zero, List.set_cons_succ]
        refine wpAnyT_takeB (i := 22) (oi := ⟨some 43, .load 40 (.tmp 5), _, _, _, _⟩) (v := ?vR4x22e) rfl (by kernel_rfl) (by kernel_rfl) (by kernel_rfl) (by kernel_rfl) (fun _ _ _ h => h) (Or.inl ⟨by rfl, ?hyR4x22e⟩) (by assumption) ?restR4x22e
        case hyR4x22e => (intro w hSw; obtain ⟨⟨p0, p1, p2, p3, p4, p5, p6, p7, p8, p9⟩, _⟩ := box10 hSw.b1; go_simp; try (with_reducible rfl))
        try simp only [Act.put, List.setIfInBounds_toArray, List.set_cons_zero, List.set_cons_succ]
        refine wpAnyT_takeB (i := 23) (oi := ⟨some 44, .move (.tmp 1), _, _, _, _⟩) (v := ?vR4x23e) rfl (by kernel_rfl) (by kernel_rfl) (by kernel_rfl) (by kernel_rfl) (fun _ _ _ h => h) (Or.inl ⟨by rfl, ?hyR4x23e⟩) (by assumption) ?restR4x23e
        case hyR4x23e => (intro w hSw; clear hSw; go_simp; try (with_reducible rfl))
        try simp only [Act.put, List.setIfInBounds_toArray, List.set_cons_zero, List.set_cons_succ]
        refine wpAnyT_one (i := 21) (o := ⟨some 42, .call { callee := .value (.func 13), args := #[.tmp 40, .tmp 41], argTypes := #[40, 27] }, _, _, _, _⟩) (by kernel_rfl) rfl (fun K hK => ?_)
        go_simp
        refine calls_at (HA.out _ hHeld.1) (by with_reducible rfl) (by with_reducible rfl) ?_
        rintro e we1 ⟨rfl, hbwe1⟩
        go_wp2_with fail
        have hHe1 : (S4 w.heap.size x1 x2 x3 x4 (#[.int .i64 c.kind, .int .i64 c.op, .slice ta c.terms.length tc, .int .i64 c.k, .int .i64 c.v, .int .i64 c.x, .int .i64 c.y, .slice xa c.xs.length xc, .slice ba c.table.length bc, .slice ra c.rows.length rc]) (#[.int .i64 c.kind, .int .i64 1, .slice ta c.terms.length tc, .int .i64 c.k, .int .i64 c.v, .int .i64 c.x, .int .i64 c.y, .slice xa c.xs.length xc, .slice ba c.table.length bc, .slice ra c.rows.length rc]) (#[.int .i64 c.kind, .int .i64 2, .slice ta c.terms.length tc, .int .i64 c.k, .int .i64 c.v, .int .i64 c.x, .int .i64 c.y, .slice xa c.xs.length xc, .slice ba c.table.length bc, .slice ra c.rows.length rc]) (#[.int .i64 c.kind, .int .i64 3, .slice ta c.terms.length tc, .int .i64 c.k, .int .i64 c.v, .int .i64 c.x, .int .i64 c.y, .slice xa c.xs.length xc, .slice ba c.table.length bc, .slice ra c.rows.length rc]) (#[.int .i64 c.kind, .int .i64 1, .slice ta c.terms.length tc, .int .i64 (c.xs.length : Int), .int .i64 c.v, .int .i64 c.x, .int .i64 c.y, .slice xa c.xs.length xc, .slice ba c.table.length bc, .slice ra c.rows.length rc]) V5) we1 ∧ True := ⟨hHeld.1.next hbwe1, trivial⟩
        clear hbwe1
        refine hK.out _ _ ⟨hHe1.1, fun _ => trivial⟩ ?_
        clear hK K
        try simp only [Act.put, List.setIfInBounds_toArray, List.set_cons_zero, List.set_cons_succ]
        refine wpAnyT_one (i := 24) (o := ⟨some 45, .call { callee := .value (.func 13), args := #[.tmp 43, .tmp 44], argTypes := #[40, 27] }, _, _, _, _⟩) (by kernel_rfl) rfl (fun K hK => ?_)
        go_simp
        refine calls_at (HL.out _ hHe1.1) (by with_reducible rfl) (by with_reducible rfl) ?_
        rintro e we2 ⟨rfl, hbwe2⟩
        go_wp2_with fail
        have hHe2 : (S4 w.heap.size x1 x2 x3 x4 (#[.int .i64 c.kind, .int .i64 c.op, .slice ta c.terms.length tc, .int .i64 c.k, .int .i64 c.v, .int .i64 c.x, .int .i64 c.y, .slice xa c.xs.length xc, .slice ba c.table.length bc, .slice ra c.rows.length rc]) (#[.int .i64 c.kind, .int .i64 1, .slice ta c.terms.length tc, .int .i64 c.k, .int .i64 c.v, .int .i64 c.x, .int .i64 c.y, .slice xa c.xs.length xc, .slice ba c.table.length bc, .slice ra c.rows.length rc]) (#[.int .i64 c.kind, .int .i64 2, .slice ta c.terms.length tc, .int .i64 c.k, .int .i64 c.v, .int .i64 c.x, .int .i64 c.y, .slice xa c.xs.length xc, .slice ba c.table.length bc, .slice ra c.rows.length rc]) (#[.int .i64 c.kind, .int .i64 3, .slice ta c.terms.length tc, .int .i64 c.k, .int .i64 c.v, .int .i64 c.x, .int .i64 c.y, .slice xa c.xs.length xc, .slice ba c.table.length bc, .slice ra c.rows.length rc]) (#[.int .i64 c.kind, .int .i64 1, .slice ta c.terms.length tc, .int .i64 (c.xs.length : Int), .int .i64 c.v, .int .i64 c.x, .int .i64 c.y, .slice xa c.xs.length xc, .slice ba c.table.length bc, .slice ra c.rows.length rc]) V5) we2 ∧ True := ⟨hHe1.1.next hbwe2, trivial⟩
        clear hbwe2
        refine hK.out _ _ ⟨hHe2.1, fun _ => trivial⟩ ?_
        clear hK K
        try simp only [Act.put, List.setIfInBounds_toArray, List.set_cons_zero, List.set_cons_succ]
        refine wpAnyT_takeB (i := 25) (oi := ⟨some 46, .move (.tmp 45), _, _, _, _⟩) (v := ?vR4x25e) rfl (by kernel_rfl) (by kernel_rfl) (by kernel_rfl) (by kernel_rfl) (fun _ _ _ h => h) (Or.inl ⟨by rfl, ?hyR4x25e⟩) (by assumption) ?restR4x25e
        case hyR4x25e => (intro w hSw; clear hSw; go_simp; try (with_reducible rfl))
        try simp only [Act.put, List.setIfInBounds_toArray, List.set_cons_zero, List.set_cons_succ]
        refine wpAnyT_takeB (i := 26) (oi := ⟨some 47, .load 40 (.tmp 7), _, _, _, _⟩) (v := ?vR4x26e) rfl (by kernel_rfl) (by kernel_rfl) (by kernel_rfl) (by kernel_rfl) (fun _ _ _ h => h) (Or.inl ⟨by rfl, ?hyR4x26e⟩) (by assumption) ?restR4x26e
        case hyR4x26e => (intro w hSw; obtain ⟨⟨p0, p1, p2, p3, p4, p5, p6, p7, p8, p9⟩, _⟩ := box10 hSw.b3; go_simp; try (with_reducible rfl))
        try simp only [Act.put, List.setIfInBounds_toArray, List.set_cons_zero, List.set_cons_succ]
        refine wpAnyT_takeB (i := 27) (oi := ⟨some 48, .move (.tmp 1), _, _, _, _⟩) (v := ?vR4x27e) rfl (by kernel_rfl) (by kernel_rfl) (by kernel_rfl) (by kernel_rfl) (fun _ _ _ h => h) (Or.inl ⟨by rfl, ?hyR4x27e⟩) (by assumption) ?restR4x27e
        case hyR4x27e => (intro w hSw; clear hSw; go_simp; try (with_reducible rfl))
        try simp only [Act.put, List.setIfInBounds_toArray, List.set_cons_zero, List.set_cons_succ]
        refine wpAnyT_one (i := 28) (o := ⟨some 49, .call { callee := .value (.func 13), args := #[.tmp 47, .tmp 48], argTypes := #[40, 27] }, _, _, _, _⟩) (by kernel_rfl) rfl (fun K hK => ?_)
        go_simp
        refine calls_at (HG.out _ hHe2.1) (by with_reducible rfl) (by with_reducible rfl) ?_
        rintro e we3 ⟨rfl, hbwe3⟩
        go_wp2_with fail
        have hHe3 : (S4 w.heap.size x1 x2 x3 x4 (#[.int .i64 c.kind, .int .i64 c.op, .slice ta c.terms.length tc, .int .i64 c.k, .int .i64 c.v, .int .i64 c.x, .int .i64 c.y, .slice xa c.xs.length xc, .slice ba c.table.length bc, .slice ra c.rows.length rc]) (#[.int .i64 c.kind, .int .i64 1, .slice ta c.terms.length tc, .int .i64 c.k, .int .i64 c.v, .int .i64 c.x, .int .i64 c.y, .slice xa c.xs.length xc, .slice ba c.table.length bc, .slice ra c.rows.length rc]) (#[.int .i64 c.kind, .int .i64 2, .slice ta c.terms.length tc, .int .i64 c.k, .int .i64 c.v, .int .i64 c.x, .int .i64 c.y, .slice xa c.xs.length xc, .slice ba c.table.length bc, .slice ra c.rows.length rc]) (#[.int .i64 c.kind, .int .i64 3, .slice ta c.terms.length tc, .int .i64 c.k, .int .i64 c.v, .int .i64 c.x, .int .i64 c.y, .slice xa c.xs.length xc, .slice ba c.table.length bc, .slice ra c.rows.length rc]) (#[.int .i64 c.kind, .int .i64 1, .slice ta c.terms.length tc, .int .i64 (c.xs.length : Int), .int .i64 c.v, .int .i64 c.x, .int .i64 c.y, .slice xa c.xs.length xc, .slice ba c.table.length bc, .slice ra c.rows.length rc]) V5) we3 ∧ True := ⟨hHe2.1.next hbwe3, trivial⟩
        clear hbwe3
        refine hK.out _ _ ⟨hHe3.1, fun _ => trivial⟩ ?_
        clear hK K
        try simp only [Act.put, List.setIfInBounds_toArray, List.set_cons_zero, List.set_cons_succ]
        refine wpAnyT_takeB (i := 29) (oi := ⟨some 50, .pick (.tmp 46) ((.const (.bool true))) (.tmp 49), _, _, _, _⟩) (v := ?vR4x29e) rfl (by kernel_rfl) (by kernel_rfl) (by kernel_rfl) (by kernel_rfl) (fun _ _ _ h => h) (Or.inl ⟨by rfl, ?hyR4x29e⟩) (by assumption) ?restR4x29e
        case hyR4x29e => (intro w hSw; clear hSw; go_simp; try (with_reducible rfl))
        try simp only [Act.put, List.setIfInBounds_toArray, List.set_cons_zero, List.set_cons_succ]
        refine wpAnyT_takeB (i := 30) (oi := ⟨some 51, .binOp .neq 4 (.tmp 42) (.tmp 50) 4, _, _, _, _⟩) (v := ?vR4x30e) rfl (by kernel_rfl) (by kernel_rfl) (by kernel_rfl) (by kernel_rfl) (fun _ _ _ h => h) (Or.inl ⟨by rfl, ?hyR4x30e⟩) (by assumption) ?restR4x30e
        case hyR4x30e => (intro w hSw; clear hSw; go_simp; try (with_reducible rfl))
        try simp only [Act.put, List.setIfInBounds_toArray, List.set_cons_zero, List.set_cons_succ]
        refine wpAnyT_takeB (i := 31) (oi := ⟨some 52, .pick (.tmp 39) (.tmp 51) ((.const (.bool false))), _, _, _, _⟩) (v := ?vR4x31e) rfl (by kernel_rfl) (by kernel_rfl) (by kernel_rfl) (by kernel_rfl) (fun _ _ _ h => h) (Or.inl ⟨by rfl, ?hyR4x31e⟩) (by assumption) ?restR4x31e
        case hyR4x31e => (intro w hSw; clear hSw; go_simp; try (with_reducible rfl))
        try simp only [Act.put, List.setIfInBounds_toArray, List.set_cons_zero, List.set_cons_succ]
        refine wpAnyT_done (by kernel_rfl) ?_ _

        go_wp2_with fail
        go_meet
        exact ⟨rfl, hHe3.1⟩
      · rw [hle, Bool.true_or] at HAll
        have HA : Hid (∀ w', (S4 w.heap.size x1 x2 x3 x4 (#[.int .i64 c.kind, .int .i64 c.op, .slice ta c.terms.length tc, .int .i64 c.k, .int .i64 c.v, .int .i64 c.x, .int .i64 c.y, .slice xa c.xs.length xc, .slice ba c.table.length bc, .slice ra c.rows.length rc]) (#[.int .i64 c.kind, .int .i64 1, .slice ta c.terms.length tc, .int .i64 c.k, .int .i64 c.v, .int .i64 c.x, .int .i64 c.y, .slice xa c.xs.length xc, .slice ba c.table.length bc, .slice ra c.rows.length rc]) (#[.int .i64 c.kind, .int .i64 2, .slice ta c.terms.length tc, .int .i64 c.k, .int .i64 c.v, .int .i64 c.x, .int .i64 c.y, .slice xa c.xs.length xc, .slice ba c.table.length bc, .slice ra c.rows.length rc]) (#[.int .i64 c.kind, .int .i64 3, .slice ta c.terms.length tc, .int .i64 c.k, .int .i64 c.v, .int .i64 c.x, .int .i64 c.y, .slice xa c.xs.length xc, .slice ba c.table.length bc, .slice ra c.rows.length rc]) (#[.int .i64 c.kind, .int .i64 1, .slice ta c.terms.length tc, .int .i64 (c.xs.length : Int), .int .i64 c.v, .int .i64 c.x, .int .i64 c.y, .slice xa c.xs.length xc, .slice ba c.table.length bc, .slice ra c.rows.length rc]) V5) w' → Calls Try.prog 13 #[.agg #[.int .i64 c.kind, .int .i64 1, .slice ta c.terms.length tc, .int .i64 (c.xs.length : Int), .int .i64 c.v, .int .i64 c.x, .int .i64 c.y, .slice xa c.xs.length xc, .slice ba c.table.length bc, .slice ra c.rows.length rc], .slice qa l.length qc] w' fun e w'' => e = .returned (.bool true) ∧ Below w'.heap.size w' w'') := by
          have h := HA0.out
          rw [HAll] at h
          exact h
        have HL : Hid (∀ w', (S4 w.heap.size x1 x2 x3 x4 (#[.int .i64 c.kind, .int .i64 c.op, .slice ta c.terms.length tc, .int .i64 c.k, .int .i64 c.v, .int .i64 c.x, .int .i64 c.y, .slice xa c.xs.length xc, .slice ba c.table.length bc, .slice ra c.rows.length rc]) (#[.int .i64 c.kind, .int .i64 1, .slice ta c.terms.length tc, .int .i64 c.k, .int .i64 c.v, .int .i64 c.x, .int .i64 c.y, .slice xa c.xs.length xc, .slice ba c.table.length bc, .slice ra c.rows.length rc]) (#[.int .i64 c.kind, .int .i64 2, .slice ta c.terms.length tc, .int .i64 c.k, .int .i64 c.v, .int .i64 c.x, .int .i64 c.y, .slice xa c.xs.length xc, .slice ba c.table.length bc, .slice ra c.rows.length rc]) (#[.int .i64 c.kind, .int .i64 3, .slice ta c.terms.length tc, .int .i64 c.k, .int .i64 c.v, .int .i64 c.x, .int .i64 c.y, .slice xa c.xs.length xc, .slice ba c.table.length bc, .slice ra c.rows.length rc]) (#[.int .i64 c.kind, .int .i64 1, .slice ta c.terms.length tc, .int .i64 (c.xs.length : Int), .int .i64 c.v, .int .i64 c.x, .int .i64 c.y, .slice xa c.xs.length xc, .slice ba c.table.length bc, .slice ra c.rows.length rc]) V5) w' → Calls Try.prog 13 #[.agg #[.int .i64 c.kind, .int .i64 1, .slice ta c.terms.length tc, .int .i64 c.k, .int .i64 c.v, .int .i64 c.x, .int .i64 c.y, .slice xa c.xs.length xc, .slice ba c.table.length bc, .slice ra c.rows.length rc], .slice qa l.length qc] w' fun e w'' => e = .returned (.bool true) ∧ Below w'.heap.size w' w'') := by
          have h := HL0.out
          rw [hle] at h
          exact h
        clear HAll hle
        refine wp_region_T (S4 w.heap.size x1 x2 x3 x4 (#[.int .i64 c.kind, .int .i64 c.op, .slice ta c.terms.length tc, .int .i64 c.k, .int .i64 c.v, .int .i64 c.x, .int .i64 c.y, .slice xa c.xs.length xc, .slice ba c.table.length bc, .slice ra c.rows.length rc]) (#[.int .i64 c.kind, .int .i64 1, .slice ta c.terms.length tc, .int .i64 c.k, .int .i64 c.v, .int .i64 c.x, .int .i64 c.y, .slice xa c.xs.length xc, .slice ba c.table.length bc, .slice ra c.rows.length rc]) (#[.int .i64 c.kind, .int .i64 2, .slice ta c.terms.length tc, .int .i64 c.k, .int .i64 c.v, .int .i64 c.x, .int .i64 c.y, .slice xa c.xs.length xc, .slice ba c.table.length bc, .slice ra c.rows.length rc]) (#[.int .i64 c.kind, .int .i64 3, .slice ta c.terms.length tc, .int .i64 c.k, .int .i64 c.v, .int .i64 c.x, .int .i64 c.y, .slice xa c.xs.length xc, .slice ba c.table.length bc, .slice ra c.rows.length rc]) (#[.int .i64 c.kind, .int .i64 1, .slice ta c.terms.length tc, .int .i64 (c.xs.length : Int), .int .i64 c.v, .int .i64 c.x, .int .i64 c.y, .slice xa c.xs.length xc, .slice ba c.table.length bc, .slice ra c.rows.length rc]) V5) (fun _ => True) [] (by kernel_rfl) ⟨HS5.out.next (Below.refl _ _).drew, trivial⟩ (fun hHeld => ?_)
        refine wpAnyT_takeB (i := 0) (oi := ⟨some 21, .fieldAddr 40 (.tmp 2) 1, _, _, _, _⟩) (v := ?vR4x0f) rfl (by kernel_rfl) (by kernel_rfl) (by kernel_rfl) (by kernel_rfl) (fun _ _ _ h => h) (Or.inl ⟨by rfl, ?hyR4x0f⟩) (by assumption) ?restR4x0f
        case hyR4x0f => (intro w hSw; clear hSw; go_simp; try (with_reducible rfl))
        try simp only [Act.put, List.setIfInBounds_toArray, List.set_cons_zero, List.set_cons_succ]
        refine wpAnyT_takeB (i := 1) (oi := ⟨some 22, .load 3 (.tmp 21), _, _, _, _⟩) (v := ?vR4x1f) rfl (by kernel_rfl) (by kernel_rfl) (by kernel_rfl) (by kernel_rfl) (fun _ _ _ h => h) (Or.inl ⟨by rfl, ?hyR4x1f⟩) (by assumption) ?restR4x1f
        case hyR4x1f => (intro w hSw; obtain ⟨⟨p0, p1, p2, p3, p4, p5, p6, p7, p8, p9⟩, _⟩ := box10 hSw.n; go_simp; try (with_reducible rfl))
        try simp only [Act.put, List.setIfInBounds_toArray, List.set_cons_zero, List.set_cons_succ]
        refine wpAnyT_takeB (i := 2) (oi := ⟨some 23, .binOp .geq 3 (.tmp 22) ((.const (.int .i64 1))) 3, _, _, _, _⟩) (v := ?vR4x2f) rfl (by kernel_rfl) (by kernel_rfl) (by kernel_rfl) (by kernel_rfl) (fun _ _ _ h => h) (Or.inl ⟨by rfl, ?hyR4x2f⟩) (by assumption) ?restR4x2f
        case hyR4x2f => (intro w hSw; clear hSw; go_simp; try (with_reducible rfl))
        try simp only [Act.put, List.setIfInBounds_toArray, List.set_cons_zero, List.set_cons_succ]
        refine wpAnyT_takeB (i := 3) (oi := ⟨some 24, .move (.tmp 23), _, _, _, _⟩) (v := ?vR4x3f) rfl (by kernel_rfl) (by kernel_rfl) (by kernel_rfl) (by kernel_rfl) (fun _ _ _ h => h) (Or.inl ⟨by rfl, ?hyR4x3f⟩) (by assumption) ?restR4x3f
        case hyR4x3f => (intro w hSw; clear hSw; go_simp; try (with_reducible rfl))
        try simp only [Act.put, List.setIfInBounds_toArray, List.set_cons_zero, List.set_cons_succ]
        refine wpAnyT_takeB (i := 4) (oi := ⟨some 25, .fieldAddr 40 (.tmp 2) 1, _, _, _, _⟩) (v := ?vR4x4f) rfl (by kernel_rfl) (by kernel_rfl) (by kernel_rfl) (by kernel_rfl) (fun _ _ _ h => h) (Or.inl ⟨by rfl, ?hyR4x4f⟩) (by assumption) ?restR4x4f
        case hyR4x4f => (intro w hSw; clear hSw; go_simp; try (with_reducible rfl))
        try simp only [Act.put, List.setIfInBounds_toArray, List.set_cons_zero, List.set_cons_succ]
        refine wpAnyT_takeB (i := 5) (oi := ⟨some 26, .load 3 (.tmp 25), _, _, _, _⟩) (v := ?vR4x5f) rfl (by kernel_rfl) (by kernel_rfl) (by kernel_rfl) (by kernel_rfl) (fun _ _ _ h => h) (Or.inl ⟨by rfl, ?hyR4x5f⟩) (by assumption) ?restR4x5f
        case hyR4x5f => (intro w hSw; obtain ⟨⟨p0, p1, p2, p3, p4, p5, p6, p7, p8, p9⟩, _⟩ := box10 hSw.n; go_simp; try (with_reducible rfl))
        try simp only [Act.put, List.setIfInBounds_toArray, List.set_cons_zero, List.set_cons_succ]
        refine wpAnyT_takeB (i := 6) (oi := ⟨some 27, .binOp .leq 3 (.tmp 26) ((.const (.int .i64 3))) 3, _, _, _, _⟩) (v := ?vR4x6f) rfl (by kernel_rfl) (by kernel_rfl) (by kernel_rfl) (by kernel_rfl) (fun _ _ _ h => h) (Or.inl ⟨by rfl, ?hyR4x6f⟩) (by assumption) ?restR4x6f
        case hyR4x6f => (intro w hSw; clear hSw; go_simp; try (with_reducible rfl))
        try simp only [Act.put, List.setIfInBounds_toArray, List.set_cons_zero, List.set_cons_succ]
        refine wpAnyT_takeB (i := 7) (oi := ⟨some 28, .pick (.tmp 24) (.tmp 27) ((.const (.bool false))), _, _, _, _⟩) (v := ?vR4x7f) rfl (by kernel_rfl) (by kernel_rfl) (by kernel_rfl) (by kernel_rfl) (fun _ _ _ h => h) (Or.inl ⟨by rfl, ?hyR4x7f⟩) (by assumption) ?restR4x7f
        case hyR4x7f => (intro w hSw; clear hSw; go_simp; try (with_reducible rfl))
        try simp only [Act.put, List.setIfInBounds_toArray, List.set_cons_zero, List.set_cons_succ]
        refine wpAnyT_takeB (i := 8) (oi := ⟨some 29, .move (.tmp 28), _, _, _, _⟩) (v := ?vR4x8f) rfl (by kernel_rfl) (by kernel_rfl) (by kernel_rfl) (by kernel_rfl) (fun _ _ _ h => h) (Or.inl ⟨by rfl, ?hyR4x8f⟩) (by assumption) ?restR4x8f
        case hyR4x8f => (intro w hSw; clear hSw; go_simp; try (with_reducible rfl))
        try simp only [Act.put, List.setIfInBounds_toArray, List.set_cons_zero, List.set_cons_succ]
        refine wpAnyT_takeB (i := 9) (oi := ⟨some 30, .fieldAddr 40 (.tmp 2) 3, _, _, _, _⟩) (v := ?vR4x9f) rfl (by kernel_rfl) (by kernel_rfl) (by kernel_rfl) (by kernel_rfl) (fun _ _ _ h => h) (Or.inl ⟨by rfl, ?hyR4x9f⟩) (by assumption) ?restR4x9f
        case hyR4x9f => (intro w hSw; clear hSw; go_simp; try (with_reducible rfl))
        try simp only [Act.put, List.setIfInBounds_toArray, List.set_cons_zero, List.set_cons_succ]
        refine wpAnyT_takeB (i := 10) (oi := ⟨some 31, .load 3 (.tmp 30), _, _, _, _⟩) (v := ?vR4x10f) rfl (by kernel_rfl) (by kernel_rfl) (by kernel_rfl) (by kernel_rfl) (fun _ _ _ h => h) (Or.inl ⟨by rfl, ?hyR4x10f⟩) (by assumption) ?restR4x10f
        case hyR4x10f => (intro w hSw; obtain ⟨⟨p0, p1, p2, p3, p4, p5, p6, p7, p8, p9⟩, _⟩ := box10 hSw.n; go_simp; try (with_reducible rfl))
        try simp only [Act.put, List.setIfInBounds_toArray, List.set_cons_zero, List.set_cons_succ]
        refine wpAnyT_takeB (i := 11) (oi := ⟨some 32, .binOp .geq 3 (.tmp 31) ((.const (.int .i64 (-1000000000)))) 3, _, _, _, _⟩) (v := ?vR4x11f) rfl (by kernel_rfl) (by kernel_rfl) (by kernel_rfl) (by kernel_rfl) (fun _ _ _ h => h) (Or.inl ⟨by rfl, ?hyR4x11f⟩) (by assumption) ?restR4x11f
        case hyR4x11f => (intro w hSw; clear hSw; go_simp; try (with_reducible rfl))
        try simp only [Act.put, List.setIfInBounds_toArray, List.set_cons_zero, List.set_cons_succ]
        refine wpAnyT_takeB (i := 12) (oi := ⟨some 33, .pick (.tmp 29) (.tmp 32) ((.const (.bool false))), _, _, _, _⟩) (v := ?vR4x12f) rfl (by kernel_rfl) (by kernel_rfl) (by kernel_rfl) (by kernel_rfl) (fun _ _ _ h => h) (Or.inl ⟨by rfl, ?hyR4x12f⟩) (by assumption) ?restR4x12f
        case hyR4x12f => (intro w hSw; clear hSw; go_simp; try (with_reducible rfl))
        try simp only [Act.put, List.setIfInBounds_toArray, List.set_cons_zero, List.set_cons_succ]
        refine wpAnyT_takeB (i := 13) (oi := ⟨some 34, .move (.tmp 33), _, _, _, _⟩) (v := ?vR4x13f) rfl (by kernel_rfl) (by kernel_rfl) (by kernel_rfl) (by kernel_rfl) (fun _ _ _ h => h) (Or.inl ⟨by rfl, ?hyR4x13f⟩) (by assumption) ?restR4x13f
        case hyR4x13f => (intro w hSw; clear hSw; go_simp; try (with_reducible rfl))
        try simp only [Act.put, List.setIfInBounds_toArray, List.set_cons_zero, List.set_cons_succ]
        refine wpAnyT_takeB (i := 14) (oi := ⟨some 35, .fieldAddr 40 (.tmp 2) 3, _, _, _, _⟩) (v := ?vR4x14f) rfl (by kernel_rfl) (by kernel_rfl) (by kernel_rfl) (by kernel_rfl) (fun _ _ _ h => h) (Or.inl ⟨by rfl, ?hyR4x14f⟩) (by assumption) ?restR4x14f
        case hyR4x14f => (intro w hSw; clear hSw; go_simp; try (with_reducible rfl))
        try simp only [Act.put, List.setIfInBounds_toArray, List.set_cons_zero, List.set_cons_succ]
        refine wpAnyT_takeB (i := 15) (oi := ⟨some 36, .load 3 (.tmp 35), _, _, _, _⟩) (v := ?vR4x15f) rfl (by kernel_rfl) (by kernel_rfl) (by kernel_rfl) (by kernel_rfl) (fun _ _ _ h => h) (Or.inl ⟨by rfl, ?hyR4x15f⟩) (by assumption) ?restR4x15f
        case hyR4x15f => (intro w hSw; obtain ⟨⟨p0, p1, p2, p3, p4, p5, p6, p7, p8, p9⟩, _⟩ := box10 hSw.n; go_simp; try (with_reducible rfl))
        try simp only [Act.put, List.setIfInBounds_toArray, List.set_cons_zero, List.set_cons_succ]
        refine wpAnyT_takeB (i := 16) (oi := ⟨some 37, .binOp .leq 3 (.tmp 36) ((.const (.int .i64 1000000000))) 3, _, _, _, _⟩) (v := ?vR4x16f) rfl (by kernel_rfl) (by kernel_rfl) (by kernel_rfl) (by kernel_rfl) (fun _ _ _ h => h) (Or.inl ⟨by rfl, ?hyR4x16f⟩) (by assumption) ?restR4x16f
        case hyR4x16f => (intro w hSw; clear hSw; go_simp; try (with_reducible rfl))
        try simp only [Act.put, List.setIfInBounds_toArray, List.set_cons_zero, List.set_cons_succ]
        refine wpAnyT_takeB (i := 17) (oi := ⟨some 38, .pick (.tmp 34) (.tmp 37) ((.const (.bool false))), _, _, _, _⟩) (v := ?vR4x17f) rfl (by kernel_rfl) (by kernel_rfl) (by kernel_rfl) (by kernel_rfl) (fun _ _ _ h => h) (Or.inl ⟨by rfl, ?hyR4x17f⟩) (by assumption) ?restR4x17f
        case hyR4x17f => (intro w hSw; clear hSw; go_simp; try (with_reducible rfl))
        try simp only [Act.put, List.setIfInBounds_toArray, List.set_cons_zero, List.set_cons_succ]
        refine wpAnyT_takeB (i := 18) (oi := ⟨some 39, .move (.tmp 38), _, _, _, _⟩) (v := ?vR4x18f) rfl (by kernel_rfl) (by kernel_rfl) (by kernel_rfl) (by kernel_rfl) (fun _ _ _ h => h) (Or.inl ⟨by rfl, ?hyR4x18f⟩) (by assumption) ?restR4x18f
        case hyR4x18f => (intro w hSw; clear hSw; go_simp; try (with_reducible rfl))
        try simp only [Act.put, List.setIfInBounds_toArray, List.set_cons_zero, List.set_cons_succ]
        refine wpAnyT_takeB (i := 19) (oi := ⟨some 40, .load 40 (.tmp 8), _, _, _, _⟩) (v := ?vR4x19f) rfl (by kernel_rfl) (by kernel_rfl) (by kernel_rfl) (by kernel_rfl) (fun _ _ _ h => h) (Or.inl ⟨by rfl, ?hyR4x19f⟩) (by assumption) ?restR4x19f
        case hyR4x19f => (intro w hSw; obtain ⟨⟨p0, p1, p2, p3, p4, p5, p6, p7, p8, p9⟩, _⟩ := box10 hSw.b4; go_simp; try (with_reducible rfl))
        try simp only [Act.put, List.setIfInBounds_toArray, List.set_cons_zero, List.set_cons_succ]
        refine wpAnyT_takeB (i := 20) (oi := ⟨some 41, .move (.tmp 1), _, _, _, _⟩) (v := ?vR4x20f) rfl (by kernel_rfl) (by kernel_rfl) (by kernel_rfl) (by kernel_rfl) (fun _ _ _ h => h) (Or.inl ⟨by rfl, ?hyR4x20f⟩) (by assumption) ?restR4x20f
        case hyR4x20f => (intro w hSw; clear hSw; go_simp; try (with_reducible rfl))
        try simp only [Act.put, List.setIfInBounds_toArray, List.set_cons_zero, List.set_cons_succ]
        refine wpAnyT_takeB (i := 22) (oi := ⟨some 43, .load 40 (.tmp 5), _, _, _, _⟩) (v := ?vR4x22f) rfl (by kernel_rfl) (by kernel_rfl) (by kernel_rfl) (by kernel_rfl) (fun _ _ _ h => h) (Or.inl ⟨by rfl, ?hyR4x22f⟩) (by assumption) ?restR4x22f
        case hyR4x22f => (intro w hSw; obtain ⟨⟨p0, p1, p2, p3, p4, p5, p6, p7, p8, p9⟩, _⟩ := box10 hSw.b1; go_simp; try (with_reducible rfl))
        try simp only [Act.put, List.setIfInBounds_toArray, List.set_cons_zero, List.set_cons_succ]
        refine wpAnyT_takeB (i := 23) (oi := ⟨some 44, .move (.tmp 1), _, _, _, _⟩) (v := ?vR4x23f) rfl (by kernel_rfl) (by kernel_rfl) (by kernel_rfl) (by kernel_rfl) (fun _ _ _ h => h) (Or.inl ⟨by rfl, ?hyR4x23f⟩) (by assumption) ?restR4x23f
        case hyR4x23f => (intro w hSw; clear hSw; go_simp; try (with_reducible rfl))
        try simp only [Act.put, List.setIfInBounds_toArray, List.set_cons_zero, List.set_cons_succ]
        refine wpAnyT_one (i := 21) (o := ⟨some 42, .call { callee := .value (.func 13), args := #[.tmp 40, .tmp 41], argTypes := #[40, 27] }, _, _, _, _⟩) (by kernel_rfl) rfl (fun K hK => ?_)
        go_simp
        refine calls_at (HA.out _ hHeld.1) (by with_reducible rfl) (by with_reducible rfl) ?_
        rintro e wf1 ⟨rfl, hbwf1⟩
        go_wp2_with fail
        have hHf1 : (S4 w.heap.size x1 x2 x3 x4 (#[.int .i64 c.kind, .int .i64 c.op, .slice ta c.terms.length tc, .int .i64 c.k, .int .i64 c.v, .int .i64 c.x, .int .i64 c.y, .slice xa c.xs.length xc, .slice ba c.table.length bc, .slice ra c.rows.length rc]) (#[.int .i64 c.kind, .int .i64 1, .slice ta c.terms.length tc, .int .i64 c.k, .int .i64 c.v, .int .i64 c.x, .int .i64 c.y, .slice xa c.xs.length xc, .slice ba c.table.length bc, .slice ra c.rows.length rc]) (#[.int .i64 c.kind, .int .i64 2, .slice ta c.terms.length tc, .int .i64 c.k, .int .i64 c.v, .int .i64 c.x, .int .i64 c.y, .slice xa c.xs.length xc, .slice ba c.table.length bc, .slice ra c.rows.length rc]) (#[.int .i64 c.kind, .int .i64 3, .slice ta c.terms.length tc, .int .i64 c.k, .int .i64 c.v, .int .i64 c.x, .int .i64 c.y, .slice xa c.xs.length xc, .slice ba c.table.length bc, .slice ra c.rows.length rc]) (#[.int .i64 c.kind, .int .i64 1, .slice ta c.terms.length tc, .int .i64 (c.xs.length : Int), .int .i64 c.v, .int .i64 c.x, .int .i64 c.y, .slice xa c.xs.length xc, .slice ba c.table.length bc, .slice ra c.rows.length rc]) V5) wf1 ∧ True := ⟨hHeld.1.next hbwf1, trivial⟩
        clear hbwf1
        refine hK.out _ _ ⟨hHf1.1, fun _ => trivial⟩ ?_
        clear hK K
        try simp only [Act.put, List.setIfInBounds_toArray, List.set_cons_zero, List.set_cons_succ]
        refine wpAnyT_one (i := 24) (o := ⟨some 45, .call { callee := .value (.func 13), args := #[.tmp 43, .tmp 44], argTypes := #[40, 27] }, _, _, _, _⟩) (by kernel_rfl) rfl (fun K hK => ?_)
        go_simp
        refine calls_at (HL.out _ hHf1.1) (by with_reducible rfl) (by with_reducible rfl) ?_
        rintro e wf2 ⟨rfl, hbwf2⟩
        go_wp2_with fail
        have hHf2 : (S4 w.heap.size x1 x2 x3 x4 (#[.int .i64 c.kind, .int .i64 c.op, .slice ta c.terms.length tc, .int .i64 c.k, .int .i64 c.v, .int .i64 c.x, .int .i64 c.y, .slice xa c.xs.length xc, .slice ba c.table.length bc, .slice ra c.rows.length rc]) (#[.int .i64 c.kind, .int .i64 1, .slice ta c.terms.length tc, .int .i64 c.k, .int .i64 c.v, .int .i64 c.x, .int .i64 c.y, .slice xa c.xs.length xc, .slice ba c.table.length bc, .slice ra c.rows.length rc]) (#[.int .i64 c.kind, .int .i64 2, .slice ta c.terms.length tc, .int .i64 c.k, .int .i64 c.v, .int .i64 c.x, .int .i64 c.y, .slice xa c.xs.length xc, .slice ba c.table.length bc, .slice ra c.rows.length rc]) (#[.int .i64 c.kind, .int .i64 3, .slice ta c.terms.length tc, .int .i64 c.k, .int .i64 c.v, .int .i64 c.x, .int .i64 c.y, .slice xa c.xs.length xc, .slice ba c.table.length bc, .slice ra c.rows.length rc]) (#[.int .i64 c.kind, .int .i64 1, .slice ta c.terms.length tc, .int .i64 (c.xs.length : Int), .int .i64 c.v, .int .i64 c.x, .int .i64 c.y, .slice xa c.xs.length xc, .slice ba c.table.length bc, .slice ra c.rows.length rc]) V5) wf2 ∧ True := ⟨hHf1.1.next hbwf2, trivial⟩
        clear hbwf2
        refine hK.out _ _ ⟨hHf2.1, fun _ => trivial⟩ ?_
        clear hK K
        try simp only [Act.put, List.setIfInBounds_toArray, List.set_cons_zero, List.set_cons_succ]
        refine wpAnyT_takeB (i := 25) (oi := ⟨some 46, .move (.tmp 45), _, _, _, _⟩) (v := ?vR4x25f) rfl (by kernel_rfl) (by kernel_rfl) (by kernel_rfl) (by kernel_rfl) (fun _ _ _ h => h) (Or.inl ⟨by rfl, ?hyR4x25f⟩) (by assumption) ?restR4x25f
        case hyR4x25f => (intro w hSw; clear hSw; go_simp; try (with_reducible rfl))
        try simp only [Act.put, List.setIfInBounds_toArray, List.set_cons_zero, List.set_cons_succ]
        refine wpAnyT_takeB (i := 26) (oi := ⟨some 47, .load 40 (.tmp 7), _, _, _, _⟩) (v := undef) rfl (by kernel_rfl) (by kernel_rfl) (by kernel_rfl) (by kernel_rfl) (fun _ _ _ h => h) (Or.inr ⟨by rfl, rfl⟩) (by assumption) ?restR4x26f
        try simp only [Act.put, List.setIfInBounds_toArray, List.set_cons_zero, List.set_cons_succ]
        refine wpAnyT_takeB (i := 27) (oi := ⟨some 48, .move (.tmp 1), _, _, _, _⟩) (v := undef) rfl (by kernel_rfl) (by kernel_rfl) (by kernel_rfl) (by kernel_rfl) (fun _ _ _ h => h) (Or.inr ⟨by rfl, rfl⟩) (by assumption) ?restR4x27f
        try simp only [Act.put, List.setIfInBounds_toArray, List.set_cons_zero, List.set_cons_succ]
        refine wpAnyT_one (i := 28) (o := ⟨some 49, .call { callee := .value (.func 13), args := #[.tmp 47, .tmp 48], argTypes := #[40, 27] }, _, _, _, _⟩) (by kernel_rfl) rfl (fun K hK => ?_)
        go_simp
        refine hK.out _ _ ⟨hHf2.1, fun _ => trivial⟩ ?_
        clear hK K
        try simp only [Act.put, List.setIfInBounds_toArray, List.set_cons_zero, List.set_cons_succ]
        refine wpAnyT_takeB (i := 29) (oi := ⟨some 50, .pick (.tmp 46) ((.const (.bool true))) (.tmp 49), _, _, _, _⟩) (v := ?vR4x29f) rfl (by kernel_rfl) (by kernel_rfl) (by kernel_rfl) (by kernel_rfl) (fun _ _ _ h => h) (Or.inl ⟨by rfl, ?hyR4x29f⟩) (by assumption) ?restR4x29f
        case hyR4x29f => (intro w hSw; clear hSw; go_simp; try (with_reducible rfl))
        try simp only [Act.put, List.setIfInBounds_toArray, List.set_cons_zero, List.set_cons_succ]
        refine wpAnyT_takeB (i := 30) (oi := ⟨some 51, .binOp .neq 4 (.tmp 42) (.tmp 50) 4, _, _, _, _⟩) (v := ?vR4x30f) rfl (by kernel_rfl) (by kernel_rfl) (by kernel_rfl) (by kernel_rfl) (fun _ _ _ h => h) (Or.inl ⟨by rfl, ?hyR4x30f⟩) (by assumption) ?restR4x30f
        case hyR4x30f => (intro w hSw; clear hSw; go_simp; try (with_reducible rfl))
        try simp only [Act.put, List.setIfInBounds_toArray, List.set_cons_zero, List.set_cons_succ]
        refine wpAnyT_takeB (i := 31) (oi := ⟨some 52, .pick (.tmp 39) (.tmp 51) ((.const (.bool false))), _, _, _, _⟩) (v := ?vR4x31f) rfl (by kernel_rfl) (by kernel_rfl) (by kernel_rfl) (by kernel_rfl) (fun _ _ _ h => h) (Or.inl ⟨by rfl, ?hyR4x31f⟩) (by assumption) ?restR4x31f
        case hyR4x31f => (intro w hSw; clear hSw; go_simp; try (with_reducible rfl))
        try simp only [Act.put, List.setIfInBounds_toArray, List.set_cons_zero, List.set_cons_succ]
        refine wpAnyT_done (by kernel_rfl) ?_ _

        go_wp2_with fail
        go_meet
        exact ⟨rfl, hHf2.1⟩
    case rest =>
      obtain ⟨rfl, hS6⟩ := hcut
      have HBoth := Md.holds_both (c := c) (vs := l) (.inr HK.out)
      cases hle : Md.holds { c with op := 1 } l
      · rw [hle, Bool.false_and] at HBoth
        have HQ : Hid (∀ w', (S4 w.heap.size x1 x2 x3 x4 (#[.int .i64 c.kind, .int .i64 c.op, .slice ta c.terms.length tc, .int .i64 c.k, .int .i64 c.v, .int .i64 c.x, .int .i64 c.y, .slice xa c.xs.length xc, .slice ba c.table.length bc, .slice ra c.rows.length rc]) (#[.int .i64 c.kind, .int .i64 1, .slice ta c.terms.length tc, .int .i64 c.k, .int .i64 c.v, .int .i64 c.x, .int .i64 c.y, .slice xa c.xs.length xc, .slice ba c.table.length bc, .slice ra c.rows.length rc]) (#[.int .i64 c.kind, .int .i64 2, .slice ta c.terms.length tc, .int .i64 c.k, .int .i64 c.v, .int .i64 c.x, .int .i64 c.y, .slice xa c.xs.length xc, .slice ba c.table.length bc, .slice ra c.rows.length rc]) (#[.int .i64 c.kind, .int .i64 3, .slice ta c.terms.length tc, .int .i64 c.k, .int .i64 c.v, .int .i64 c.x, .int .i64 c.y, .slice xa c.xs.length xc, .slice ba c.table.length bc, .slice ra c.rows.length rc]) (#[.int .i64 c.kind, .int .i64 1, .slice ta c.terms.length tc, .int .i64 (c.xs.length : Int), .int .i64 c.v, .int .i64 c.x, .int .i64 c.y, .slice xa c.xs.length xc, .slice ba c.table.length bc, .slice ra c.rows.length rc]) V5) w' → Calls Try.prog 13 #[.agg #[.int .i64 c.kind, .int .i64 2, .slice ta c.terms.length tc, .int .i64 c.k, .int .i64 c.v, .int .i64 c.x, .int .i64 c.y, .slice xa c.xs.length xc, .slice ba c.table.length bc, .slice ra c.rows.length rc], .slice qa l.length qc] w' fun e w'' => e = .returned (.bool false) ∧ Below w'.heap.size w' w'') := by
          have h := HQ0.out
          rw [HBoth] at h
          exact h
        have HL : Hid (∀ w', (S4 w.heap.size x1 x2 x3 x4 (#[.int .i64 c.kind, .int .i64 c.op, .slice ta c.terms.length tc, .int .i64 c.k, .int .i64 c.v, .int .i64 c.x, .int .i64 c.y, .slice xa c.xs.length xc, .slice ba c.table.length bc, .slice ra c.rows.length rc]) (#[.int .i64 c.kind, .int .i64 1, .slice ta c.terms.length tc, .int .i64 c.k, .int .i64 c.v, .int .i64 c.x, .int .i64 c.y, .slice xa c.xs.length xc, .slice ba c.table.length bc, .slice ra c.rows.length rc]) (#[.int .i64 c.kind, .int .i64 2, .slice ta c.terms.length tc, .int .i64 c.k, .int .i64 c.v, .int .i64 c.x, .int .i64 c.y, .slice xa c.xs.length xc, .slice ba c.table.length bc, .slice ra c.rows.length rc]) (#[.int .i64 c.kind, .int .i64 3, .slice ta c.terms.length tc, .int .i64 c.k, .int .i64 c.v, .int .i64 c.x, .int .i64 c.y, .slice xa c.xs.length xc, .slice ba c.table.length bc, .slice ra c.rows.length rc]) (#[.int .i64 c.kind, .int .i64 1, .slice ta c.terms.length tc, .int .i64 (c.xs.length : Int), .int .i64 c.v, .int .i64 c.x, .int .i64 c.y, .slice xa c.xs.length xc, .slice ba c.table.length bc, .slice ra c.rows.length rc]) V5) w' → Calls Try.prog 13 #[.agg #[.int .i64 c.kind, .int .i64 1, .slice ta c.terms.length tc, .int .i64 c.k, .int .i64 c.v, .int .i64 c.x, .int .i64 c.y, .slice xa c.xs.length xc, .slice ba c.table.length bc, .slice ra c.rows.length rc], .slice qa l.length qc] w' fun e w'' => e = .returned (.bool false) ∧ Below w'.heap.size w' w'') := by
          have h := HL0.out
          rw [hle] at h
          exact h
        clear HBoth hle
        go_wp2_with fail
        refine wp_region_T (S4 w.heap.size x1 x2 x3 x4 (#[.int .i64 c.kind, .int .i64 c.op, .slice ta c.terms.length tc, .int .i64 c.k, .int .i64 c.v, .int .i64 c.x, .int .i64 c.y, .slice xa c.xs.length xc, .slice ba c.table.length bc, .slice ra c.rows.length rc]) (#[.int .i64 c.kind, .int .i64 1, .slice ta c.terms.length tc, .int .i64 c.k, .int .i64 c.v, .int .i64 c.x, .int .i64 c.y, .slice xa c.xs.length xc, .slice ba c.table.length bc, .slice ra c.rows.length rc]) (#[.int .i64 c.kind, .int .i64 2, .slice ta c.terms.length tc, .int .i64 c.k, .int .i64 c.v, .int .i64 c.x, .int .i64 c.y, .slice xa c.xs.length xc, .slice ba c.table.length bc, .slice ra c.rows.length rc]) (#[.int .i64 c.kind, .int .i64 3, .slice ta c.terms.length tc, .int .i64 c.k, .int .i64 c.v, .int .i64 c.x, .int .i64 c.y, .slice xa c.xs.length xc, .slice ba c.table.length bc, .slice ra c.rows.length rc]) (#[.int .i64 c.kind, .int .i64 1, .slice ta c.terms.length tc, .int .i64 (c.xs.length : Int), .int .i64 c.v, .int .i64 c.x, .int .i64 c.y, .slice xa c.xs.length xc, .slice ba c.table.length bc, .slice ra c.rows.length rc]) V5) (fun _ => True) [] (by kernel_rfl) ⟨hS6.out.next (Below.refl _ _).drew, trivial⟩ (fun hHeld => ?_)
        refine wpAnyT_takeB (i := 0) (oi := ⟨some 53, .load 40 (.tmp 6), _, _, _, _⟩) (v := ?vR6x0g) rfl (by kernel_rfl) (by kernel_rfl) (by kernel_rfl) (by kernel_rfl) (fun _ _ _ h => h) (Or.inl ⟨by rfl, ?hyR6x0g⟩) (by assumption) ?restR6x0g
        case hyR6x0g => (intro w hSw; obtain ⟨⟨p0, p1, p2, p3, p4, p5, p6, p7, p8, p9⟩, _⟩ := box10 hSw.b2; go_simp; try (with_reducible rfl))
        try simp only [Act.put, List.setIfInBounds_toArray, List.set_cons_zero, List.set_cons_succ]
        refine wpAnyT_takeB (i := 1) (oi := ⟨some 54, .move (.tmp 1), _, _, _, _⟩) (v := ?vR6x1g) rfl (by kernel_rfl) (by kernel_rfl) (by kernel_rfl) (by kernel_rfl) (fun _ _ _ h => h) (Or.inl ⟨by rfl, ?hyR6x1g⟩) (by assumption) ?restR6x1g
        case hyR6x1g => (intro w hSw; clear hSw; go_simp; try (with_reducible rfl))
        try simp only [Act.put, List.setIfInBounds_toArray, List.set_cons_zero, List.set_cons_succ]
        refine wpAnyT_takeB (i := 3) (oi := ⟨some 56, .load 40 (.tmp 5), _, _, _, _⟩) (v := ?vR6x3g) rfl (by kernel_rfl) (by kernel_rfl) (by kernel_rfl) (by kernel_rfl) (fun _ _ _ h => h) (Or.inl ⟨by rfl, ?hyR6x3g⟩) (by assumption) ?restR6x3g
        case hyR6x3g => (intro w hSw; obtain ⟨⟨p0, p1, p2, p3, p4, p5, p6, p7, p8, p9⟩, _⟩ := box10 hSw.b1; go_simp; try (with_reducible rfl))
        try simp only [Act.put, List.setIfInBounds_toArray, List.set_cons_zero, List.set_cons_succ]
        refine wpAnyT_takeB (i := 4) (oi := ⟨some 57, .move (.tmp 1), _, _, _, _⟩) (v := ?vR6x4g) rfl (by kernel_rfl) (by kernel_rfl) (by kernel_rfl) (by kernel_rfl) (fun _ _ _ h => h) (Or.inl ⟨by rfl, ?hyR6x4g⟩) (by assumption) ?restR6x4g
        case hyR6x4g => (intro w hSw; clear hSw; go_simp; try (with_reducible rfl))
        try simp only [Act.put, List.setIfInBounds_toArray, List.set_cons_zero, List.set_cons_succ]
        refine wpAnyT_one (i := 2) (o := ⟨some 55, .call { callee := .value (.func 13), args := #[.tmp 53, .tmp 54], argTypes := #[40, 27] }, _, _, _, _⟩) (by kernel_rfl) rfl (fun K hK => ?_)
        go_simp
        refine calls_at (HQ.out _ hHeld.1) (by with_reducible rfl) (by with_reducible rfl) ?_
        rintro e wg1 ⟨rfl, hbwg1⟩
        go_wp2_with fail
        have hHg1 : (S4 w.heap.size x1 x2 x3 x4 (#[.int .i64 c.kind, .int .i64 c.op, .slice ta c.terms.length tc, .int .i64 c.k, .int .i64 c.v, .int .i64 c.x, .int .i64 c.y, .slice xa c.xs.length xc, .slice ba c.table.length bc, .slice ra c.rows.length rc]) (#[.int .i64 c.kind, .int .i64 1, .slice ta c.terms.length tc, .int .i64 c.k, .int .i64 c.v, .int .i64 c.x, .int .i64 c.y, .slice xa c.xs.length xc, .slice ba c.table.length bc, .slice ra c.rows.length rc]) (#[.int .i64 c.kind, .int .i64 2, .slice ta c.terms.length tc, .int .i64 c.k, .int .i64 c.v, .int .i64 c.x, .int .i64 c.y, .slice xa c.xs.length xc, .slice ba c.table.length bc, .slice ra c.rows.length rc]) (#[.int .i64 c.kind, .int .i64 3, .slice ta c.terms.length tc, .int .i64 c.k, .int .i64 c.v, .int .i64 c.x, .int .i64 c.y, .slice xa c.xs.length xc, .slice ba c.table.length bc, .slice ra c.rows.length rc]) (#[.int .i64 c.kind, .int .i64 1, .slice ta c.terms.length tc, .int .i64 (c.xs.length : Int), .int .i64 c.v, .int .i64 c.x, .int .i64 c.y, .slice xa c.xs.length xc, .slice ba c.table.length bc, .slice ra c.rows.length rc]) V5) wg1 ∧ True := ⟨hHeld.1.next hbwg1, trivial⟩
        clear hbwg1
        refine hK.out _ _ ⟨hHg1.1, fun _ => trivial⟩ ?_
        clear hK K
        try simp only [Act.put, List.setIfInBounds_toArray, List.set_cons_zero, List.set_cons_succ]
        refine wpAnyT_one (i := 5) (o := ⟨some 58, .call { callee := .value (.func 13), args := #[.tmp 56, .tmp 57], argTypes := #[40, 27] }, _, _, _, _⟩) (by kernel_rfl) rfl (fun K hK => ?_)
        go_simp
        refine calls_at (HL.out _ hHg1.1) (by with_reducible rfl) (by with_reducible rfl) ?_
        rintro e wg2 ⟨rfl, hbwg2⟩
        go_wp2_with fail
        have hHg2 : (S4 w.heap.size x1 x2 x3 x4 (#[.int .i64 c.kind, .int .i64 c.op, .slice ta c.terms.length tc, .int .i64 c.k, .int .i64 c.v, .int .i64 c.x, .int .i64 c.y, .slice xa c.xs.length xc, .slice ba c.table.length bc, .slice ra c.rows.length rc]) (#[.int .i64 c.kind, .int .i64 1, .slice ta c.terms.length tc, .int .i64 c.k, .int .i64 c.v, .int .i64 c.x, .int .i64 c.y, .slice xa c.xs.length xc, .slice ba c.table.length bc, .slice ra c.rows.length rc]) (#[.int .i64 c.kind, .int .i64 2, .slice ta c.terms.length tc, .int .i64 c.k, .int .i64 c.v, .int .i64 c.x, .int .i64 c.y, .slice xa c.xs.length xc, .slice ba c.table.length bc, .slice ra c.rows.length rc]) (#[.int .i64 c.kind, .int .i64 3, .slice ta c.terms.length tc, .int .i64 c.k, .int .i64 c.v, .int .i64 c.x, .int .i64 c.y, .slice xa c.xs.length xc, .slice ba c.table.length bc, .slice ra c.rows.length rc]) (#[.int .i64 c.kind, .int .i64 1, .slice ta c.terms.length tc, .int .i64 (c.xs.length : Int), .int .i64 c.v, .int .i64 c.x, .int .i64 c.y, .slice xa c.xs.length xc, .slice ba c.table.length bc, .slice ra c.rows.length rc]) V5) wg2 ∧ True := ⟨hHg1.1.next hbwg2, trivial⟩
        clear hbwg2
        refine hK.out _ _ ⟨hHg2.1, fun _ => trivial⟩ ?_
        clear hK K
        try simp only [Act.put, List.setIfInBounds_toArray, List.set_cons_zero, List.set_cons_succ]
        refine wpAnyT_takeB (i := 6) (oi := ⟨some 59, .move (.tmp 58), _, _, _, _⟩) (v := ?vR6x6g) rfl (by kernel_rfl) (by kernel_rfl) (by kernel_rfl) (by kernel_rfl) (fun _ _ _ h => h) (Or.inl ⟨by rfl, ?hyR6x6g⟩) (by assumption) ?restR6x6g
        case hyR6x6g => (intro w hSw; clear hSw; go_simp; try (with_reducible rfl))
        try simp only [Act.put, List.setIfInBounds_toArray, List.set_cons_zero, List.set_cons_succ]
        refine wpAnyT_takeB (i := 7) (oi := ⟨some 60, .load 40 (.tmp 7), _, _, _, _⟩) (v := undef) rfl (by kernel_rfl) (by kernel_rfl) (by kernel_rfl) (by kernel_rfl) (fun _ _ _ h => h) (Or.inr ⟨by rfl, rfl⟩) (by assumption) ?restR6x7g
        try simp only [Act.put, List.setIfInBounds_toArray, List.set_cons_zero, List.set_cons_succ]
        refine wpAnyT_takeB (i := 8) (oi := ⟨some 61, .move (.tmp 1), _, _, _, _⟩) (v := undef) rfl (by kernel_rfl) (by kernel_rfl) (by kernel_rfl) (by kernel_rfl) (fun _ _ _ h => h) (Or.inr ⟨by rfl, rfl⟩) (by assumption) ?restR6x8g
        try simp only [Act.put, List.setIfInBounds_toArray, List.set_cons_zero, List.set_cons_succ]
        refine wpAnyT_one (i := 9) (o := ⟨some 62, .call { callee := .value (.func 13), args := #[.tmp 60, .tmp 61], argTypes := #[40, 27] }, _, _, _, _⟩) (by kernel_rfl) rfl (fun K hK => ?_)
        go_simp
        refine hK.out _ _ ⟨hHg2.1, fun _ => trivial⟩ ?_
        clear hK K
        try simp only [Act.put, List.setIfInBounds_toArray, List.set_cons_zero, List.set_cons_succ]
        refine wpAnyT_takeB (i := 10) (oi := ⟨some 63, .pick (.tmp 59) (.tmp 62) ((.const (.bool false))), _, _, _, _⟩) (v := ?vR6x10g) rfl (by kernel_rfl) (by kernel_rfl) (by kernel_rfl) (by kernel_rfl) (fun _ _ _ h => h) (Or.inl ⟨by rfl, ?hyR6x10g⟩) (by assumption) ?restR6x10g
        case hyR6x10g => (intro w hSw; clear hSw; go_simp; try (with_reducible rfl))
        try simp only [Act.put, List.setIfInBounds_toArray, List.set_cons_zero, List.set_cons_succ]
        refine wpAnyT_takeB (i := 11) (oi := ⟨some 64, .binOp .eql 4 (.tmp 55) (.tmp 63) 4, _, _, _, _⟩) (v := ?vR6x11g) rfl (by kernel_rfl) (by kernel_rfl) (by kernel_rfl) (by kernel_rfl) (fun _ _ _ h => h) (Or.inl ⟨by rfl, ?hyR6x11g⟩) (by assumption) ?restR6x11g
        case hyR6x11g => (intro w hSw; clear hSw; go_simp; try (with_reducible rfl))
        try simp only [Act.put, List.setIfInBounds_toArray, List.set_cons_zero, List.set_cons_succ]
        refine wpAnyT_takeB (i := 12) (oi := ⟨some 4, .assign (.tmp 64), _, _, _, _⟩) (v := ?vR6x12g) rfl (by kernel_rfl) (by kernel_rfl) (by kernel_rfl) (by kernel_rfl) (fun _ _ _ h => h) (Or.inl ⟨by rfl, ?hyR6x12g⟩) (by assumption) ?restR6x12g
        case hyR6x12g => (intro w hSw; clear hSw; go_simp; try (with_reducible rfl))
        try simp only [Act.put, List.setIfInBounds_toArray, List.set_cons_zero, List.set_cons_succ]
        refine wpAnyT_done (by kernel_rfl) ?_ _

        go_wp2_with fail
        go_ret
        exact ⟨rfl, HBb.out hHg2.1.b⟩
      · rw [hle, Bool.true_and] at HBoth
        obtain ⟨bg, hbg⟩ : ∃ b, Md.holds { c with op := 3 } l = b := ⟨_, rfl⟩
        rw [hbg] at HBoth
        have HQ : Hid (∀ w', (S4 w.heap.size x1 x2 x3 x4 (#[.int .i64 c.kind, .int .i64 c.op, .slice ta c.terms.length tc, .int .i64 c.k, .int .i64 c.v, .int .i64 c.x, .int .i64 c.y, .slice xa c.xs.length xc, .slice ba c.table.length bc, .slice ra c.rows.length rc]) (#[.int .i64 c.kind, .int .i64 1, .slice ta c.terms.length tc, .int .i64 c.k, .int .i64 c.v, .int .i64 c.x, .int .i64 c.y, .slice xa c.xs.length xc, .slice ba c.table.length bc, .slice ra c.rows.length rc]) (#[.int .i64 c.kind, .int .i64 2, .slice ta c.terms.length tc, .int .i64 c.k, .int .i64 c.v, .int .i64 c.x, .int .i64 c.y, .slice xa c.xs.length xc, .slice ba c.table.length bc, .slice ra c.rows.length rc]) (#[.int .i64 c.kind, .int .i64 3, .slice ta c.terms.length tc, .int .i64 c.k, .int .i64 c.v, .int .i64 c.x, .int .i64 c.y, .slice xa c.xs.length xc, .slice ba c.table.length bc, .slice ra c.rows.length rc]) (#[.int .i64 c.kind, .int .i64 1, .slice ta c.terms.length tc, .int .i64 (c.xs.length : Int), .int .i64 c.v, .int .i64 c.x, .int .i64 c.y, .slice xa c.xs.length xc, .slice ba c.table.length bc, .slice ra c.rows.length rc]) V5) w' → Calls Try.prog 13 #[.agg #[.int .i64 c.kind, .int .i64 2, .slice ta c.terms.length tc, .int .i64 c.k, .int .i64 c.v, .int .i64 c.x, .int .i64 c.y, .slice xa c.xs.length xc, .slice ba c.table.length bc, .slice ra c.rows.length rc], .slice qa l.length qc] w' fun e w'' => e = .returned (.bool bg) ∧ Below w'.heap.size w' w'') := by
          have h := HQ0.out
          rw [HBoth] at h
          exact h
        have HL : Hid (∀ w', (S4 w.heap.size x1 x2 x3 x4 (#[.int .i64 c.kind, .int .i64 c.op, .slice ta c.terms.length tc, .int .i64 c.k, .int .i64 c.v, .int .i64 c.x, .int .i64 c.y, .slice xa c.xs.length xc, .slice ba c.table.length bc, .slice ra c.rows.length rc]) (#[.int .i64 c.kind, .int .i64 1, .slice ta c.terms.length tc, .int .i64 c.k, .int .i64 c.v, .int .i64 c.x, .int .i64 c.y, .slice xa c.xs.length xc, .slice ba c.table.length bc, .slice ra c.rows.length rc]) (#[.int .i64 c.kind, .int .i64 2, .slice ta c.terms.length tc, .int .i64 c.k, .int .i64 c.v, .int .i64 c.x, .int .i64 c.y, .slice xa c.xs.length xc, .slice ba c.table.length bc, .slice ra c.rows.length rc]) (#[.int .i64 c.kind, .int .i64 3, .slice ta c.terms.length tc, .int .i64 c.k, .int .i64 c.v, .int .i64 c.x, .int .i64 c.y, .slice xa c.xs.length xc, .slice ba c.table.length bc, .slice ra c.rows.length rc]) (#[.int .i64 c.kind, .int .i64 1, .slice ta c.terms.length tc, .int .i64 (c.xs.length : Int), .int .i64 c.v, .int .i64 c.x, .int .i64 c.y, .slice xa c.xs.length xc, .slice ba c.table.length bc, .slice ra c.rows.length rc]) V5) w' → Calls Try.prog 13 #[.agg #[.int .i64 c.kind, .int .i64 1, .slice ta c.terms.length tc, .int .i64 c.k, .int .i64 c.v, .int .i64 c.x, .int .i64 c.y, .slice xa c.xs.length xc, .slice ba c.table.length bc, .slice ra c.rows.length rc], .slice qa l.length qc] w' fun e w'' => e = .returned (.bool true) ∧ Below w'.heap.size w' w'') := by
          have h := HL0.out
          rw [hle] at h
          exact h
        have HG : Hid (∀ w', (S4 w.heap.size x1 x2 x3 x4 (#[.int .i64 c.kind, .int .i64 c.op, .slice ta c.terms.length tc, .int .i64 c.k, .int .i64 c.v, .int .i64 c.x, .int .i64 c.y, .slice xa c.xs.length xc, .slice ba c.table.length bc, .slice ra c.rows.length rc]) (#[.int .i64 c.kind, .int .i64 1, .slice ta c.terms.length tc, .int .i64 c.k, .int .i64 c.v, .int .i64 c.x, .int .i64 c.y, .slice xa c.xs.length xc, .slice ba c.table.length bc, .slice ra c.rows.length rc]) (#[.int .i64 c.kind, .int .i64 2, .slice ta c.terms.length tc, .int .i64 c.k, .int .i64 c.v, .int .i64 c.x, .int .i64 c.y, .slice xa c.xs.length xc, .slice ba c.table.length bc, .slice ra c.rows.length rc]) (#[.int .i64 c.kind, .int .i64 3, .slice ta c.terms.length tc, .int .i64 c.k, .int .i64 c.v, .int .i64 c.x, .int .i64 c.y, .slice xa c.xs.length xc, .slice ba c.table.length bc, .slice ra c.rows.length rc]) (#[.int .i64 c.kind, .int .i64 1, .slice ta c.terms.length tc, .int .i64 (c.xs.length : Int), .int .i64 c.v, .int .i64 c.x, .int .i64 c.y, .slice xa c.xs.length xc, .slice ba c.table.length bc, .slice ra c.rows.length rc]) V5) w' → Calls Try.prog 13 #[.agg #[.int .i64 c.kind, .int .i64 3, .slice ta c.terms.length tc, .int .i64 c.k, .int .i64 c.v, .int .i64 c.x, .int .i64 c.y, .slice xa c.xs.length xc, .slice ba c.table.length bc, .slice ra c.rows.length rc], .slice qa l.length qc] w' fun e w'' => e = .returned (.bool bg) ∧ Below w'.heap.size w' w'') := by
          have h := HG0.out
          rw [hbg] at h
          exact h
        clear HBoth hle hbg
        go_wp2_with fail
        refine wp_region_T (S4 w.heap.size x1 x2 x3 x4 (#[.int .i64 c.kind, .int .i64 c.op, .slice ta c.terms.length tc, .int .i64 c.k, .int .i64 c.v, .int .i64 c.x, .int .i64 c.y, .slice xa c.xs.length xc, .slice ba c.table.length bc, .slice ra c.rows.length rc]) (#[.int .i64 c.kind, .int .i64 1, .slice ta c.terms.length tc, .int .i64 c.k, .int .i64 c.v, .int .i64 c.x, .int .i64 c.y, .slice xa c.xs.length xc, .slice ba c.table.length bc, .slice ra c.rows.length rc]) (#[.int .i64 c.kind, .int .i64 2, .slice ta c.terms.length tc, .int .i64 c.k, .int .i64 c.v, .int .i64 c.x, .int .i64 c.y, .slice xa c.xs.length xc, .slice ba c.table.length bc, .slice ra c.rows.length rc]) (#[.int .i64 c.kind, .int .i64 3, .slice ta c.terms.length tc, .int .i64 c.k, .int .i64 c.v, .int .i64 c.x, .int .i64 c.y, .slice xa c.xs.length xc, .slice ba c.table.length bc, .slice ra c.rows.length rc]) (#[.int .i64 c.kind, .int .i64 1, .slice ta c.terms.length tc, .int .i64 (c.xs.length : Int), .int .i64 c.v, .int .i64 c.x, .int .i64 c.y, .slice xa c.xs.length xc, .slice ba c.table.length bc, .slice ra c.rows.length rc]) V5) (fun _ => True) [] (by kernel_rfl) ⟨hS6.out.next (Below.refl _ _).drew, trivial⟩ (fun hHeld => ?_)
        refine wpAnyT_takeB (i := 0) (oi := ⟨some 53, .load 40 (.tmp 6), _, _, _, _⟩) (v := ?vR6x0h) rfl (by kernel_rfl) (by kernel_rfl) (by kernel_rfl) (by kernel_rfl) (fun _ _ _ h => h) (Or.inl ⟨by rfl, ?hyR6x0h⟩) (by assumption) ?restR6x0h
        case hyR6x0h => (intro w hSw; obtain ⟨⟨p0, p1, p2, p3, p4, p5, p6, p7, p8, p9⟩, _⟩ := box10 hSw.b2; go_simp; try (with_reducible rfl))
        try simp only [Act.put, List.setIfInBounds_toArray, List.set_cons_zero, List.set_cons_succ]
        refine wpAnyT_takeB (i := 1) (oi := ⟨some 54, .move (.tmp 1), _, _, _, _⟩) (v := ?vR6x1h) rfl (by kernel_rfl) (by kernel_rfl) (by kernel_rfl) (by kernel_rfl) (fun _ _ _ h => h) (Or.inl ⟨by rfl, ?hyR6x1h⟩) (by assumption) ?restR6x1h
        case hyR6x1h => (intro w hSw; clear hSw; go_simp; try (with_reducible rfl))
        try simp only [Act.put, List.setIfInBounds_toArray, List.set_cons_zero, List.set_cons_succ]
        refine wpAnyT_takeB (i := 3) (oi := ⟨some 56, .load 40 (.tmp 5), _, _, _, _⟩) (v := ?vR6x3h) rfl (by kernel_rfl) (by kernel_rfl) (by kernel_rfl) (by kernel_rfl) (fun _ _ _ h => h) (Or.inl ⟨by rfl, ?hyR6x3h⟩) (by assumption) ?restR6x3h
        case hyR6x3h => (intro w hSw; obtain ⟨⟨p0, p1, p2, p3, p4, p5, p6, p7, p8, p9⟩, _⟩ := box10 hSw.b1; go_simp; try (with_reducible rfl))
        try simp only [Act.put, List.setIfInBounds_toArray, List.set_cons_zero, List.set_cons_succ]
        refine wpAnyT_takeB (i := 4) (oi := ⟨some 57, .move (.tmp 1), _, _, _, _⟩) (v := ?vR6x4h) rfl (by kernel_rfl) (by kernel_rfl) (by kernel_rfl) (by kernel_rfl) (fun _ _ _ h => h) (Or.inl ⟨by rfl, ?hyR6x4h⟩) (by assumption) ?restR6x4h
        case hyR6x4h => (intro w hSw; clear hSw; go_simp; try (with_reducible rfl))
        try simp only [Act.put, List.setIfInBounds_toArray, List.set_cons_zero, List.set_cons_succ]
        refine wpAnyT_one (i := 2) (o := ⟨some 55, .call { callee := .value (.func 13), args := #[.tmp 53, .tmp 54], argTypes := #[40, 27] }, _, _, _, _⟩) (by kernel_rfl) rfl (fun K hK => ?_)
        go_simp
        refine calls_at (HQ.out _ hHeld.1) (by with_reducible rfl) (by with_reducible rfl) ?_
        rintro e wh1 ⟨rfl, hbwh1⟩
        go_wp2_with fail
        have hHh1 : (S4 w.heap.size x1 x2 x3 x4 (#[.int .i64 c.kind, .int .i64 c.op, .slice ta c.terms.length tc, .int .i64 c.k, .int .i64 c.v, .int .i64 c.x, .int .i64 c.y, .slice xa c.xs.length xc, .slice ba c.table.length bc, .slice ra c.rows.length rc]) (#[.int .i64 c.kind, .int .i64 1, .slice ta c.terms.length tc, .int .i64 c.k, .int .i64 c.v, .int .i64 c.x, .int .i64 c.y, .slice xa c.xs.length xc, .slice ba c.table.length bc, .slice ra c.rows.length rc]) (#[.int .i64 c.kind, .int .i64 2, .slice ta c.terms.length tc, .int .i64 c.k, .int .i64 c.v, .int .i64 c.x, .int .i64 c.y, .slice xa c.xs.length xc, .slice ba c.table.length bc, .slice ra c.rows.length rc]) (#[.int .i64 c.kind, .int .i64 3, .slice ta c.terms.length tc, .int .i64 c.k, .int .i64 c.v, .int .i64 c.x, .int .i64 c.y, .slice xa c.xs.length xc, .slice ba c.table.length bc, .slice ra c.rows.length rc]) (#[.int .i64 c.kind, .int .i64 1, .slice ta c.terms.length tc, .int .i64 (c.xs.length : Int), .int .i64 c.v, .int .i64 c.x, .int .i64 c.y, .slice xa c.xs.length xc, .slice ba c.table.length bc, .slice ra c.rows.length rc]) V5) wh1 ∧ True := ⟨hHeld.1.next hbwh1, trivial⟩
        clear hbwh1
        refine hK.out _ _ ⟨hHh1.1, fun _ => trivial⟩ ?_
        clear hK K
        try simp only [Act.put, List.setIfInBounds_toArray, List.set_cons_zero, List.set_cons_succ]
        refine wpAnyT_one (i := 5) (o := ⟨some 58, .call { callee := .value (.func 13), args := #[.tmp 56, .tmp 57], argTypes := #[40, 27] }, _, _, _, _⟩) (by kernel_rfl) rfl (fun K hK => ?_)
        go_simp
        refine calls_at (HL.out _ hHh1.1) (by with_reducible rfl) (by with_reducible rfl) ?_
        rintro e wh2 ⟨rfl, hbwh2⟩
        go_wp2_with fail
        have hHh2 : (S4 w.heap.size x1 x2 x3 x4 (#[.int .i64 c.kind, .int .i64 c.op, .slice ta c.terms.length tc, .int .i64 c.k, .int .i64 c.v, .int .i64 c.x, .int .i64 c.y, .slice xa c.xs.length xc, .slice ba c.table.length bc, .slice ra c.rows.length rc]) (#[.int .i64 c.kind, .int .i64 1, .slice ta c.terms.length tc, .int .i64 c.k, .int .i64 c.v, .int .i64 c.x, .int .i64 c.y, .slice xa c.xs.length xc, .slice ba c.table.length bc, .slice ra c.rows.length rc]) (#[.int .i64 c.kind, .int .i64 2, .slice ta c.terms.length tc, .int .i64 c.k, .int .i64 c.v, .int .i64 c.x, .int .i64 c.y, .slice xa c.xs.length xc, .slice ba c.table.length bc, .slice ra c.rows.length rc]) (#[.int .i64 c.kind, .int .i64 3, .slice ta c.terms.length tc, .int .i64 c.k, .int .i64 c.v, .int .i64 c.x, .int .i64 c.y, .slice xa c.xs.length xc, .slice ba c.table.length bc, .slice ra c.rows.length rc]) (#[.int .i64 c.kind, .int .i64 1, .slice ta c.terms.length tc, .int .i64 (c.xs.length : Int), .int .i64 c.v, .int .i64 c.x, .int .i64 c.y, .slice xa c.xs.length xc, .slice ba c.table.length bc, .slice ra c.rows.length rc]) V5) wh2 ∧ True := ⟨hHh1.1.next hbwh2, trivial⟩
        clear hbwh2
        refine hK.out _ _ ⟨hHh2.1, fun _ => trivial⟩ ?_
        clear hK K
        try simp only [Act.put, List.setIfInBounds_toArray, List.set_cons_zero, List.set_cons_succ]
        refine wpAnyT_takeB (i := 6) (oi := ⟨some 59, .move (.tmp 58), _, _, _, _⟩) (v := ?vR6x6h) rfl (by kernel_rfl) (by kernel_rfl) (by kernel_rfl) (by kernel_rfl) (fun _ _ _ h => h) (Or.inl ⟨by rfl, ?hyR6x6h⟩) (by assumption) ?restR6x6h
        case hyR6x6h => (intro w hSw; clear hSw; go_simp; try (with_reducible rfl))
        try simp only [Act.put, List.setIfInBounds_toArray, List.set_cons_zero, List.set_cons_succ]
        refine wpAnyT_takeB (i := 7) (oi := ⟨some 60, .load 40 (.tmp 7), _, _, _, _⟩) (v := ?vR6x7h) rfl (by kernel_rfl) (by kernel_rfl) (by kernel_rfl) (by kernel_rfl) (fun _ _ _ h => h) (Or.inl ⟨by rfl, ?hyR6x7h⟩) (by assumption) ?restR6x7h
        case hyR6x7h => (intro w hSw; obtain ⟨⟨p0, p1, p2, p3, p4, p5, p6, p7, p8, p9⟩, _⟩ := box10 hSw.b3; go_simp; try (with_reducible rfl))
        try simp only [Act.put, List.setIfInBounds_toArray, List.set_cons_zero, List.set_cons_succ]
        refine wpAnyT_takeB (i := 8) (oi := ⟨some 61, .move (.tmp 1), _, _, _, _⟩) (v := ?vR6x8h) rfl (by kernel_rfl) (by kernel_rfl) (by kernel_rfl) (by kernel_rfl) (fun _ _ _ h => h) (Or.inl ⟨by rfl, ?hyR6x8h⟩) (by assumption) ?restR6x8h
        case hyR6x8h => (intro w hSw; clear hSw; go_simp; try (with_reducible rfl))
        try simp only [Act.put, List.setIfInBounds_toArray, List.set_cons_zero, List.set_cons_succ]
        refine wpAnyT_one (i := 9) (o := ⟨some 62, .call { callee := .value (.func 13), args := #[.tmp 60, .tmp 61], argTypes := #[40, 27] }, _, _, _, _⟩) (by kernel_rfl) rfl (fun K hK => ?_)
        go_simp
        refine calls_at (HG.out _ hHh2.1) (by with_reducible rfl) (by with_reducible rfl) ?_
        rintro e wh3 ⟨rfl, hbwh3⟩
        go_wp2_with fail
        have hHh3 : (S4 w.heap.size x1 x2 x3 x4 (#[.int .i64 c.kind, .int .i64 c.op, .slice ta c.terms.length tc, .int .i64 c.k, .int .i64 c.v, .int .i64 c.x, .int .i64 c.y, .slice xa c.xs.length xc, .slice ba c.table.length bc, .slice ra c.rows.length rc]) (#[.int .i64 c.kind, .int .i64 1, .slice ta c.terms.length tc, .int .i64 c.k, .int .i64 c.v, .int .i64 c.x, .int .i64 c.y, .slice xa c.xs.length xc, .slice ba c.table.length bc, .slice ra c.rows.length rc]) (#[.int .i64 c.kind, .int .i64 2, .slice ta c.terms.length tc, .int .i64 c.k, .int .i64 c.v, .int .i64 c.x, .int .i64 c.y, .slice xa c.xs.length xc, .slice ba c.table.length bc, .slice ra c.rows.length rc]) (#[.int .i64 c.kind, .int .i64 3, .slice ta c.terms.length tc, .int .i64 c.k, .int .i64 c.v, .int .i64 c.x, .int .i64 c.y, .slice xa c.xs.length xc, .slice ba c.table.length bc, .slice ra c.rows.length rc]) (#[.int .i64 c.kind, .int .i64 1, .slice ta c.terms.length tc, .int .i64 (c.xs.length : Int), .int .i64 c.v, .int .i64 c.x, .int .i64 c.y, .slice xa c.xs.length xc, .slice ba c.table.length bc, .slice ra c.rows.length rc]) V5) wh3 ∧ True := ⟨hHh2.1.next hbwh3, trivial⟩
        clear hbwh3
        refine hK.out _ _ ⟨hHh3.1, fun _ => trivial⟩ ?_
        clear hK K
        try simp only [Act.put, List.setIfInBounds_toArray, List.set_cons_zero, List.set_cons_succ]
        refine wpAnyT_takeB (i := 10) (oi := ⟨some 63, .pick (.tmp 59) (.tmp 62) ((.const (.bool false))), _, _, _, _⟩) (v := ?vR6x10h) rfl (by kernel_rfl) (by kernel_rfl) (by kernel_rfl) (by kernel_rfl) (fun _ _ _ h => h) (Or.inl ⟨by rfl, ?hyR6x10h⟩) (by assumption) ?restR6x10h
        case hyR6x10h => (intro w hSw; clear hSw; go_simp; try (with_reducible rfl))
        try simp only [Act.put, List.setIfInBounds_toArray, List.set_cons_zero, List.set_cons_succ]
        refine wpAnyT_takeB (i := 11) (oi := ⟨some 64, .binOp .eql 4 (.tmp 55) (.tmp 63) 4, _, _, _, _⟩) (v := ?vR6x11h) rfl (by kernel_rfl) (by kernel_rfl) (by kernel_rfl) (by kernel_rfl) (fun _ _ _ h => h) (Or.inl ⟨by rfl, ?hyR6x11h⟩) (by assumption) ?restR6x11h
        case hyR6x11h => (intro w hSw; clear hSw; go_simp; try (with_reducible rfl))
        try simp only [Act.put, List.setIfInBounds_toArray, List.set_cons_zero, List.set_cons_succ]
        refine wpAnyT_takeB (i := 12) (oi := ⟨some 4, .assign (.tmp 64), _, _, _, _⟩) (v := ?vR6x12h) rfl (by kernel_rfl) (by kernel_rfl) (by kernel_rfl) (by kernel_rfl) (fun _ _ _ h => h) (Or.inl ⟨by rfl, ?hyR6x12h⟩) (by assumption) ?restR6x12h
        case hyR6x12h => (intro w hSw; clear hSw; go_simp; try (with_reducible rfl))
        try simp only [Act.put, List.setIfInBounds_toArray, List.set_cons_zero, List.set_cons_succ]
        refine wpAnyT_done (by kernel_rfl) ?_ _

        go_wp2_with fail
        go_ret
        exact ⟨rfl, HBb.out hHh3.1.b⟩
end Go.Proofs.Ytmhfabnpfkkbcaa
