/-
  The document's side of package model: Holds.
-/
import Derived.Test.YtmhfabnpfkkbcaaGreatMdRefD
import Derived.Test.YtmhfabnpfkkbcaaGreatMdHoldsC
namespace Go.Proofs.YtmhfabnpfkkbcaaGreat
open Go.RowKit

set_option maxRecDepth 10000 in
set_option maxHeartbeats 4000000 in
theorem refHolds_bad (c : Md.Cn) (vt vx vb vr vv : Value) (vs : List Int) (w : World) (h : CnAt w c vt vx vb vr) (hv : IntsAt w vv vs) (hcon : ∀ w', CnAt w' c vt vx vb vr → Calls Tryz.prog 35 #[cnVal c vt vx vb vr, .int .i64 (vs.length : Int)] w' fun e w'' => e = .returned (.int .i64 (Md.fault c vs.length)) ∧ Below w'.heap.size w' w'') (hbad : Md.fault c vs.length ≠ 0 ∨ vs.all Md.numB = false) : Calls Tryz.prog 24 #[cnVal c vt vx vb vr, vv] w fun e w' => e = .returned (.bool false) ∧ Below w.heap.size w w' := by
  obtain ⟨ta, tc, rfl, _⟩ := id h.t
  obtain ⟨xa, xc, rfl, _⟩ := id h.x
  obtain ⟨ba, bc, rfl, _⟩ := id h.b
  obtain ⟨ra, rc, rfl, _⟩ := id h.r
  obtain ⟨va, vc, rfl, _⟩ := id hv
  obtain ⟨W, hW⟩ : ∃ W, w.alloc (.cells #[.int .i64 c.kind, .int .i64 c.op, .slice ta c.terms.length tc, .int .i64 c.k, .int .i64 c.v, .int .i64 c.x, .int .i64 c.y, .slice xa c.xs.length xc, .slice ba c.table.length bc, .slice ra c.rows.length rc] 62) = W := ⟨_, rfl⟩
  have hbW : Below w.heap.size w W := by rw [← hW]; exact (Below.refl _ _).alloc (Nat.le_refl _) _
  have c0 : W.cell? ⟨w.heap.size, 0, none⟩ = some (.int .i64 c.kind) := by rw [← hW]; simp
  have c1 : W.cell? ⟨w.heap.size, 1, none⟩ = some (.int .i64 c.op) := by rw [← hW]; simp
  have c2 : W.cell? ⟨w.heap.size, 2, none⟩ = some (.slice ta c.terms.length tc) := by rw [← hW]; simp
  have c3 : W.cell? ⟨w.heap.size, 3, none⟩ = some (.int .i64 c.k) := by rw [← hW]; simp
  have c4 : W.cell? ⟨w.heap.size, 4, none⟩ = some (.int .i64 c.v) := by rw [← hW]; simp
  have c5 : W.cell? ⟨w.heap.size, 5, none⟩ = some (.int .i64 c.x) := by rw [← hW]; simp
  have c6 : W.cell? ⟨w.heap.size, 6, none⟩ = some (.int .i64 c.y) := by rw [← hW]; simp
  have c7 : W.cell? ⟨w.heap.size, 7, none⟩ = some (.slice xa c.xs.length xc) := by rw [← hW]; simp
  have c8 : W.cell? ⟨w.heap.size, 8, none⟩ = some (.slice ba c.table.length bc) := by rw [← hW]; simp
  have c9 : W.cell? ⟨w.heap.size, 9, none⟩ = some (.slice ra c.rows.length rc) := by rw [← hW]; simp
  have HB : Hid (Below w.heap.size w W) := hbW
  have HC : Hid (CnAt W c (.slice ta c.terms.length tc) (.slice xa c.xs.length xc) (.slice ba c.table.length bc) (.slice ra c.rows.length rc)) := h.below hbW
  have HV : Hid (IntsAt W (.slice va vs.length vc) vs) := hv.below hbW
  have H35 : Hid (∀ w', CnAt w' c (.slice ta c.terms.length tc) (.slice xa c.xs.length xc) (.slice ba c.table.length bc) (.slice ra c.rows.length rc) → Calls Tryz.prog 35 #[cnVal c (.slice ta c.terms.length tc) (.slice xa c.xs.length xc) (.slice ba c.table.length bc) (.slice ra c.rows.length rc), .int .i64 (vs.length : Int)] w' fun e w'' => e = .returned (.int .i64 (Md.fault c vs.length)) ∧ Below w'.heap.size w' w'') := hcon
  clear h hv hcon hbW
  unfold cnVal at *
  by_cases hf : Md.fault c vs.length = 0
  · have hn : vs.all Md.numB = false := hbad.resolve_left (fun h => h hf)
    rw [hf] at H35
    clear hf hbad
    go_enter Tryz.func24, Tryz.ntmps24
    go_wp2_with (first
      | (go_at_call 35; refine calls_at (H35.out _ HC.out) (by with_reducible rfl) (by with_reducible rfl) ?_; rintro e w1 ⟨rfl, hb1⟩)
      | (go_at_call 53; refine (numbers_any _ vs _ (HV.out.below hb1)).mono ?_; rintro e w2 ⟨rfl, hw2⟩; rw [hw2]))
    go_ret
    exact ⟨rfl, HB.out.trans (hb1.mono HB.out.size)⟩
  · have hfB : (Md.fault c vs.length != 0) = true := by simpa using hf
    clear hf hbad
    generalize Md.fault c vs.length = r at *
    go_enter Tryz.func24, Tryz.ntmps24
    go_wp2_with (go_at_call 35; refine calls_at (H35.out _ HC.out) (by with_reducible rfl) (by with_reducible rfl) ?_; rintro e w1 ⟨rfl, hb1⟩)
    go_ret
    exact ⟨rfl, HB.out.trans (hb1.mono HB.out.size)⟩

/-- What stays while the document's Holds asks a kind. -/
def Kg (W : World) (N : Nat) (kk : Int) (c : Md.Cn) (ta : Option Addr) (tc : Nat) (xa : Option Addr) (xc : Nat) (ba : Option Addr) (bc : Nat) (ra : Option Addr) (rc : Nat) (vv : Value) (vs : List Int) (w' : World) : Prop :=
  w'.cell? ⟨N, 0, none⟩ = some (.int .i64 kk) ∧ w'.cell? ⟨N, 1, none⟩ = some (.int .i64 c.op) ∧ w'.cell? ⟨N, 2, none⟩ = some (.slice ta c.terms.length tc) ∧ w'.cell? ⟨N, 3, none⟩ = some (.int .i64 c.k) ∧ w'.cell? ⟨N, 4, none⟩ = some (.int .i64 c.v) ∧ w'.cell? ⟨N, 5, none⟩ = some (.int .i64 c.x) ∧ w'.cell? ⟨N, 6, none⟩ = some (.int .i64 c.y) ∧ w'.cell? ⟨N, 7, none⟩ = some (.slice xa c.xs.length xc) ∧ w'.cell? ⟨N, 8, none⟩ = some (.slice ba c.table.length bc) ∧ w'.cell? ⟨N, 9, none⟩ = some (.slice ra c.rows.length rc) ∧ N < w'.heap.size ∧ CnAt w' c (.slice ta c.terms.length tc) (.slice xa c.xs.length xc) (.slice ba c.table.length bc) (.slice ra c.rows.length rc) ∧ IntsAt w' vv vs ∧ Below W.heap.size W w'
theorem Kg.next {W : World} {N : Nat} {kk : Int} {c : Md.Cn} {ta : Option Addr} {tc : Nat} {xa : Option Addr} {xc : Nat} {ba : Option Addr} {bc : Nat} {ra : Option Addr} {rc : Nat} {vv : Value} {vs : List Int} {w1 w2 : World} (H : Kg W N kk c ta tc xa xc ba bc ra rc vv vs w1) (hb : Below w1.heap.size w1 w2) : Kg W N kk c ta tc xa xc ba bc ra rc vv vs w2 := by
  obtain ⟨a0, a1, a2, a3, a4, a5, a6, a7, a8, a9, hN, hC, hV, hW⟩ := H
  exact ⟨(hb.cell (p := ⟨N, 0, none⟩) hN).trans a0, (hb.cell (p := ⟨N, 1, none⟩) hN).trans a1, (hb.cell (p := ⟨N, 2, none⟩) hN).trans a2, (hb.cell (p := ⟨N, 3, none⟩) hN).trans a3, (hb.cell (p := ⟨N, 4, none⟩) hN).trans a4, (hb.cell (p := ⟨N, 5, none⟩) hN).trans a5, (hb.cell (p := ⟨N, 6, none⟩) hN).trans a6, (hb.cell (p := ⟨N, 7, none⟩) hN).trans a7, (hb.cell (p := ⟨N, 8, none⟩) hN).trans a8, (hb.cell (p := ⟨N, 9, none⟩) hN).trans a9, Nat.lt_of_lt_of_le hN hb.size, hC.below hb, hV.below hb, hW.trans (hb.mono hW.size)⟩
theorem Kg.cn {W : World} {N : Nat} {kk : Int} {c : Md.Cn} {ta : Option Addr} {tc : Nat} {xa : Option Addr} {xc : Nat} {ba : Option Addr} {bc : Nat} {ra : Option Addr} {rc : Nat} {vv : Value} {vs : List Int} {w1 : World} (H : Kg W N kk c ta tc xa xc ba bc ra rc vv vs w1) : CnAt w1 c (.slice ta c.terms.length tc) (.slice xa c.xs.length xc) (.slice ba c.table.length bc) (.slice ra c.rows.length rc) := H.2.2.2.2.2.2.2.2.2.2.2.1
theorem Kg.vals {W : World} {N : Nat} {kk : Int} {c : Md.Cn} {ta : Option Addr} {tc : Nat} {xa : Option Addr} {xc : Nat} {ba : Option Addr} {bc : Nat} {ra : Option Addr} {rc : Nat} {vv : Value} {vs : List Int} {w1 : World} (H : Kg W N kk c ta tc xa xc ba bc ra rc vv vs w1) : IntsAt w1 vv vs := H.2.2.2.2.2.2.2.2.2.2.2.2.1
theorem Kg.rest {W : World} {N : Nat} {kk : Int} {c : Md.Cn} {ta : Option Addr} {tc : Nat} {xa : Option Addr} {xc : Nat} {ba : Option Addr} {bc : Nat} {ra : Option Addr} {rc : Nat} {vv : Value} {vs : List Int} {w1 : World} (H : Kg W N kk c ta tc xa xc ba bc ra rc vv vs w1) : Below W.heap.size W w1 := H.2.2.2.2.2.2.2.2.2.2.2.2.2


/-- The same, with a value. -/
def Kb (W : World) (N : Nat) (kk : Int) (my bv ov : Nat) (y : Int) (c : Md.Cn) (ta : Option Addr) (tc : Nat) (xa : Option Addr) (xc : Nat) (ba : Option Addr) (bc : Nat) (ra : Option Addr) (rc : Nat) (vv : Value) (vs : List Int) (w' : World) : Prop :=
  w'.cell? ⟨N, 0, none⟩ = some (.int .i64 kk) ∧ w'.cell? ⟨N, 1, none⟩ = some (.int .i64 c.op) ∧ w'.cell? ⟨N, 2, none⟩ = some (.slice ta c.terms.length tc) ∧ w'.cell? ⟨N, 3, none⟩ = some (.int .i64 c.k) ∧ w'.cell? ⟨N, 4, none⟩ = some (.int .i64 c.v) ∧ w'.cell? ⟨N, 5, none⟩ = some (.int .i64 c.x) ∧ w'.cell? ⟨N, 6, none⟩ = some (.int .i64 (my : Int)) ∧ w'.cell? ⟨N, 7, none⟩ = some (.slice xa c.xs.length xc) ∧ w'.cell? ⟨N, 8, none⟩ = some (.slice ba c.table.length bc) ∧ w'.cell? ⟨N, 9, none⟩ = some (.slice ra c.rows.length rc) ∧ w'.cell? ⟨bv, ov + my, none⟩ = some (.int .i64 y) ∧ N < w'.heap.size ∧ CnAt w' c (.slice ta c.terms.length tc) (.slice xa c.xs.length xc) (.slice ba c.table.length bc) (.slice ra c.rows.length rc) ∧ IntsAt w' vv vs ∧ Below W.heap.size W w'
theorem Kb.cn {W : World} {N : Nat} {kk : Int} {my bv ov : Nat} {y : Int} {c : Md.Cn} {ta : Option Addr} {tc : Nat} {xa : Option Addr} {xc : Nat} {ba : Option Addr} {bc : Nat} {ra : Option Addr} {rc : Nat} {vv : Value} {vs : List Int} {w1 : World} (H : Kb W N kk my bv ov y c ta tc xa xc ba bc ra rc vv vs w1) : CnAt w1 c (.slice ta c.terms.length tc) (.slice xa c.xs.length xc) (.slice ba c.table.length bc) (.slice ra c.rows.length rc) := H.2.2.2.2.2.2.2.2.2.2.2.2.1
theorem Kb.vals {W : World} {N : Nat} {kk : Int} {my bv ov : Nat} {y : Int} {c : Md.Cn} {ta : Option Addr} {tc : Nat} {xa : Option Addr} {xc : Nat} {ba : Option Addr} {bc : Nat} {ra : Option Addr} {rc : Nat} {vv : Value} {vs : List Int} {w1 : World} (H : Kb W N kk my bv ov y c ta tc xa xc ba bc ra rc vv vs w1) : IntsAt w1 vv vs := H.2.2.2.2.2.2.2.2.2.2.2.2.2.1
end Go.Proofs.YtmhfabnpfkkbcaaGreat
