/-
  Problems in memory; Check: the program's.
-/
import Derived.Test.YtdfbmfikhccajaaDoorJ20
import Derived.Test.YtdfbmfikhccajaaDoorMdV3
import Derived.Deep.RegionHeld3
namespace Go.Proofs.YtdfbmfikhccajaaDoor
open Go.RowKit

/-- The ten cells of a constraint. -/
def CnCells (w : World) (b o : Nat) (c : Md.Cn) (vt vx vb vr : Value) : Prop := w.cell? ⟨b, o, none⟩ = some (.int .i64 c.kind) ∧ w.cell? ⟨b, o + 1, none⟩ = some (.int .i64 c.op) ∧ w.cell? ⟨b, o + 2, none⟩ = some vt ∧ w.cell? ⟨b, o + 3, none⟩ = some (.int .i64 c.k) ∧ w.cell? ⟨b, o + 4, none⟩ = some (.int .i64 c.v) ∧ w.cell? ⟨b, o + 5, none⟩ = some (.int .i64 c.x) ∧ w.cell? ⟨b, o + 6, none⟩ = some (.int .i64 c.y) ∧ w.cell? ⟨b, o + 7, none⟩ = some vx ∧ w.cell? ⟨b, o + 8, none⟩ = some vb ∧ w.cell? ⟨b, o + 9, none⟩ = some vr
theorem CnCells.below {w w' : World} {b o : Nat} {c : Md.Cn} {vt vx vb vr : Value} (h : CnCells w b o c vt vx vb vr) (hb : Below w.heap.size w w') : CnCells w' b o c vt vx vb vr := by
  obtain ⟨h0, h1, h2, h3, h4, h5, h6, h7, h8, h9⟩ := h
  exact ⟨one_next hb h0, one_next hb h1, one_next hb h2, one_next hb h3, one_next hb h4, one_next hb h5, one_next hb h6, one_next hb h7, one_next hb h8, one_next hb h9⟩
/-- A slice of constraints. -/
def ConsAt (w : World) (v : Value) (l : List Md.Cn) : Prop :=
  ∃ a cap, v = .slice a l.length cap ∧ l.length ≤ maxLen ∧ (0 < l.length → ∃ b off, a = some ⟨b, off, none⟩ ∧ b < w.heap.size ∧
    ∀ j (h : j < l.length), ∃ vt vx vb vr, CnAt w l[j] vt vx vb vr ∧ CnCells w b (off + j * 10) l[j] vt vx vb vr)
theorem ConsAt.below {w w' : World} {v : Value} {l : List Md.Cn} (h : ConsAt w v l) (hb : Below w.heap.size w w') : ConsAt w' v l := by
  obtain ⟨a, cap, hv, hl, hc⟩ := h
  refine ⟨a, cap, hv, hl, fun h0 => ?_⟩
  obtain ⟨b, off, ha, hbs, hcell⟩ := hc h0
  refine ⟨b, off, ha, Nat.lt_of_lt_of_le hbs hb.size, fun j hj => ?_⟩
  obtain ⟨vt, vx, vb, vr, h1, h2⟩ := hcell j hj
  exact ⟨vt, vx, vb, vr, h1.below hb, h2.below hb⟩
theorem ConsAt.form {w : World} {v : Value} {l : List Md.Cn} (h : ConsAt w v l) : ∃ a cap, v = .slice a l.length cap ∧ l.length ≤ maxLen := by
  obtain ⟨a, cap, hv, hl, _⟩ := h
  exact ⟨a, cap, hv, hl⟩
/-- A problem's value. -/
def moVal (m : Md.Mo) (vv vc vg : Value) : Value := .agg #[vv, vc, .bool m.has, vg]
/-- Its lists. -/
structure MoAt (w : World) (m : Md.Mo) (vv vc vg : Value) : Prop where
  v : VarsAt w vv m.vars
  vcap : ∀ a n cp, vv = .slice a n cp → n ≤ cp
  c : ConsAt w vc m.cons
  g : TermsAt w vg m.goal
theorem MoAt.below {w w' : World} {m : Md.Mo} {vv vc vg : Value} (h : MoAt w m vv vc vg) (hb : Below w.heap.size w w') : MoAt w' m vv vc vg :=
  ⟨h.v.below hb, h.vcap, h.c.below hb, h.g.below hb⟩
theorem box4 {w : World} {N : Nat} {a0 a1 a2 a3 : Value} {t : TypeId} (h : w.heap[N]? = some (.cells #[a0, a1, a2, a3] t (0, 0))) : (w.cell? ⟨N, 0, none⟩ = some a0 ∧ w.cell? ⟨N, 1, none⟩ = some a1 ∧ w.cell? ⟨N, 2, none⟩ = some a2 ∧ w.cell? ⟨N, 3, none⟩ = some a3) ∧ ∀ j, w.frozen? ⟨N, j, none⟩ = false := by
  refine ⟨⟨?_, ?_, ?_, ?_⟩, fun j => ?_⟩ <;> simp [World.cell?, World.frozen?, h]

theorem gf_a {m : Md.Mo} (h1 : m.has = false) (h2 : 0 < m.goal.length) : Md.goalFault m = 48 := by simp only [Md.goalFault, h1, h2, if_true]
theorem gf_b {m : Md.Mo} (h1 : m.has = false) (h2 : ¬ 0 < m.goal.length) : Md.goalFault m = 0 := by simp only [Md.goalFault, h1, h2, if_true, if_false]
theorem gf_c {m : Md.Mo} (h1 : m.has = true) (h2 : Md.fewB m.goal.length 64 = true) : Md.goalFault m = 47 := by simp [Md.goalFault, h1, h2]
theorem gf_d {m : Md.Mo} (h1 : m.has = true) (h2 : Md.fewB m.goal.length 64 = false) (h3 : (m.goal.all fun t => Md.plB m.vars.length t.2) = false) : Md.goalFault m = 44 := by unfold Md.goalFault; rw [h1, h2, h3]; rfl
theorem gf_e {m : Md.Mo} (h1 : m.has = true) (h2 : Md.fewB m.goal.length 64 = false) (h3 : (m.goal.all fun t => Md.plB m.vars.length t.2) = true) (h4 : Md.coefsB m.goal = false) : Md.goalFault m = 45 := by unfold Md.goalFault; rw [h1, h2, h3, h4]; rfl
theorem gf_f {m : Md.Mo} (h1 : m.has = true) (h2 : Md.fewB m.goal.length 64 = false) (h3 : (m.goal.all fun t => Md.plB m.vars.length t.2) = true) (h4 : Md.coefsB m.goal = true) : Md.goalFault m = 0 := by unfold Md.goalFault; rw [h1, h2, h3, h4]; rfl

set_option maxRecDepth 10000 in
set_option maxHeartbeats 1000000 in
theorem goalFault_any (m : Md.Mo) (vv vc vg : Value) (w : World) (h : MoAt w m vv vc vg) : Calls Tryd.prog 23 #[moVal m vv vc vg] w fun e w' => e = .returned (.int .i64 (Md.goalFault m)) ∧ Below w.heap.size w w' := by
  obtain ⟨W, hW⟩ : ∃ W, w.alloc (.cells #[vv, vc, .bool m.has, vg] 44) = W := ⟨_, rfl⟩
  have hbW : Below w.heap.size w W := by rw [← hW]; exact (Below.refl _ _).alloc (Nat.le_refl _) _
  have hN : W.heap[w.heap.size]? = some (.cells #[vv, vc, .bool m.has, vg] 44) := by rw [← hW]; exact heap_alloc_new w _
  have HB : Hid (Below w.heap.size w W) := hbW
  have HG : Hid (∀ w', Below W.heap.size W w' → TermsAt w' vg m.goal) := fun w' hb => (h.g.below hbW).below hb
  have HN : Hid (∀ w', Below W.heap.size W w' → w'.heap[w.heap.size]? = some (.cells #[vv, vc, .bool m.has, vg] 44)) := fun w' hb => (hb.block _ (Array.getElem?_eq_some_iff.1 hN).1).trans hN
  obtain ⟨va, vp, rfl, hvm⟩ := h.v.form
  obtain ⟨ca, cp, rfl, hcm⟩ := h.c.form
  obtain ⟨ga, gp, rfl, hgm⟩ := h.g.form
  unfold maxLen at hvm hcm hgm
  obtain ⟨⟨p0, p1, p2, p3⟩, _⟩ := box4 hN
  unfold moVal
  clear h hbW hN
  cases hh : m.has
  · rw [hh] at p2 hW HN
    by_cases hg : 0 < m.goal.length
    · have hres : Hid (Md.goalFault m = 48) := gf_a hh hg
      have hgI : (0 : Int) < (m.goal.length : Int) := by omega
      clear hh
      go_enter Tryd.func23, Tryd.ntmps23
      go_wp2
      go_ret
      exact ⟨ret_int hres.out.symm, HB.out⟩
    · have hres : Hid (Md.goalFault m = 0) := gf_b hh hg
      have hgI : ¬ (0 : Int) < (m.goal.length : Int) := by omega
      clear hh
      go_enter Tryd.func23, Tryd.ntmps23
      go_wp2
      go_ret
      exact ⟨ret_int hres.out.symm, HB.out⟩
  rw [hh] at p2 hW HN
  have HH : Hid (m.has = true) := hh
  clear hh
  cases hf : Md.fewB m.goal.length 64
  rotate_left
  · have hres : Hid (Md.goalFault m = 47) := gf_c HH.out hf
    go_enter Tryd.func23, Tryd.ntmps23
    go_wp2_with (go_at_call 42; refine (isMany_any m.goal.length 64 _).mono ?_; rintro e w' ⟨rfl, hww⟩; rw [hww]; clear hww)
    go_ret
    exact ⟨ret_int hres.out.symm, HB.out⟩
  go_enter Tryd.func23, Tryd.ntmps23
  go_wp2_with (first | (go_at_call 42; refine (isMany_any m.goal.length 64 _).mono ?_; rintro e w' ⟨rfl, hww⟩; rw [hww]; clear hww) | fail)
  have HF : Hid (Md.fewB m.goal.length 64 = false) := hf
  clear hf
  refine calls_at (areTermPlaces_any _ m.goal (m.vars.length : Int) _ (HG.out W (Below.refl _ _))) (by with_reducible rfl) (by with_reducible rfl) ?_
  rintro e w1 ⟨rfl, hb1⟩
  have HB1 : Hid (Below W.heap.size W w1) := hb1
  clear hb1 p0 p1 p2 p3
  obtain ⟨⟨p0, p1, p2, p3⟩, _⟩ := box4 (HN.out _ HB1.out)
  cases hp : (m.goal.all fun t => Md.plB m.vars.length t.2)
  · have hres : Hid (Md.goalFault m = 44) := gf_d HH.out HF.out hp
    go_wp2_with fail
    go_ret
    exact ⟨ret_int hres.out.symm, HB.out.trans (HB1.out.mono HB.out.size)⟩
  have HP : Hid ((m.goal.all fun t => Md.plB m.vars.length t.2) = true) := hp
  clear hp
  go_wp2_with fail
  refine calls_at (areCoefs_any _ m.goal _ (HG.out _ HB1.out)) (by with_reducible rfl) (by with_reducible rfl) ?_
  rintro e w2 ⟨rfl, hb2⟩
  have HB2 : Hid (Below w.heap.size w w2) := (HB.out.trans (HB1.out.mono HB.out.size)).trans (hb2.mono (HB.out.trans (HB1.out.mono HB.out.size)).size)
  clear hb2
  cases hq : Md.coefsB m.goal
  · have hres : Hid (Md.goalFault m = 45) := gf_e HH.out HF.out HP.out hq
    go_wp2_with fail
    go_ret
    exact ⟨ret_int hres.out.symm, HB2.out⟩
  · have hres : Hid (Md.goalFault m = 0) := gf_f HH.out HF.out HP.out hq
    go_wp2_with fail
    go_ret
    exact ⟨ret_int hres.out.symm, HB2.out⟩
end Go.Proofs.YtdfbmfikhccajaaDoor
