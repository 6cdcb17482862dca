/-
  Check, Right, Worth: the document's.
-/
import Derived.Test.YtdfbmfikhccajaaGreatDoorDcD1
import Derived.Test.YtdfbmfikhccajaaGreatDoorDcForeign
namespace Go.Proofs.YtdfbmfikhccajaaGreatDoor.Doc
open Go.RowKit

theorem ve_check {m : Md.Mo} (h : (varsE m.vars).2 ≠ 0) : Md.check m = varsE m.vars := by
  unfold Md.check
  unfold varsE at h ⊢
  split
  · rfl
  · rename_i h1
    rw [if_neg h1] at h
    split
    · rename_i i hi
      rw [hi]
    · rename_i hi
      rw [hi] at h
      exact absurd rfl h
theorem ve_zero {l : List Md.Vr} (h : (varsE l).2 = 0) : Md.fewB l.length 32 = false ∧ ∀ j, j < l.length → Md.vFault l j = 0 := by
  unfold varsE at h
  split at h
  · cases h
  rename_i h1
  refine ⟨by simpa using h1, ?_⟩
  split at h
  · rename_i i hi
    unfold Md.firstBad at hi
    have := List.find?_some hi
    simp at this
    exact absurd h this
  · rename_i hi
    exact Md.firstBad_none_iff hi
theorem te_goal {m : Md.Mo} (h1 : m.has = true) (h2 : Md.fewB m.goal.length 64 = false) : Md.goalFault m = termsE m.goal m.vars.length := by
  unfold termsE
  cases h3 : (m.goal.all fun t => Md.plB m.vars.length t.2)
  · rw [gf_d h1 h2 h3]; rfl
  · cases h4 : Md.coefsB m.goal
    · rw [gf_e h1 h2 h3 h4]; rfl
    · rw [gf_f h1 h2 h3 h4]; rfl

set_option maxRecDepth 10000 in
set_option maxHeartbeats 4000000 in
theorem refCheck_any (m : Md.Mo) (vv vc vg : Value) (w : World) (h : MoAt w m vv vc vg) : Calls Tryz.prog 39 #[moVal m vv vc vg] w fun e w' => e = .returned (.tuple #[.int .i64 (Md.check m).1, .int .i64 (Md.check m).2]) ∧ Below w.heap.size w w' := by
  obtain ⟨W, hW⟩ : ∃ W, w.alloc (.cells #[vv, vc, .bool m.has, vg] 26) = W := ⟨_, rfl⟩
  have hbW : Below w.heap.size w W := by rw [← hW]; exact (Below.refl _ _).alloc (Nat.le_refl _) _
  have hN : W.heap[w.heap.size]? = some (.cells #[vv, vc, .bool m.has, vg] 26) := by rw [← hW]; exact heap_alloc_new w _
  have HB : Hid (Below w.heap.size w W) := hbW
  have HM : Hid (∀ w', Below W.heap.size W w' → MoAt w' m vv vc vg) := fun w' hb => (h.below hbW).below hb
  have HN : Hid (∀ w', Below W.heap.size W w' → w'.heap[w.heap.size]? = some (.cells #[vv, vc, .bool m.has, vg] 26)) := fun w' hb => (hb.block _ (Array.getElem?_eq_some_iff.1 hN).1).trans hN
  have HNL : Hid (w.heap.size < W.heap.size) := (Array.getElem?_eq_some_iff.1 hN).1
  obtain ⟨va, vp, rfl, hvm⟩ := h.v.form
  obtain ⟨ca, cp, rfl, hcm⟩ := h.c.form
  obtain ⟨ga, gp, rfl, hgm⟩ := h.g.form
  unfold maxLen at hvm hcm hgm
  obtain ⟨⟨p0, p1, p2, p3⟩, _⟩ := box4 hN
  obtain ⟨a', c', hce, _, hco⟩ := id h.c
  injection hce with e1 e2 e3
  subst e1 e3
  have HCO : Hid (0 < m.cons.length → ∃ b off, ca = some ⟨b, off, none⟩ ∧ b < w.heap.size ∧ ∀ j (h : j < m.cons.length), ∃ vt vx vb vr, CnAt w m.cons[j] vt vx vb vr ∧ CnCells w b (off + j * 10) m.cons[j] vt vx vb vr) := hco
  obtain ⟨r1, hr1⟩ : ∃ r, (varsE m.vars).1 = r := ⟨_, rfl⟩
  obtain ⟨r2, hr2⟩ : ∃ r, (varsE m.vars).2 = r := ⟨_, rfl⟩
  have H34 : Hid (Calls Tryz.prog 55 #[.slice va m.vars.length vp] W fun e w' => e = .returned (.tuple #[.int .i64 r1, .int .i64 r2]) ∧ Below W.heap.size W w') := by rw [← hr1, ← hr2]; exact refVars_any _ m.vars W (HM.out W (Below.refl _ _)).v
  have HE : Hid (varsE m.vars = (r1, r2)) := by show _ = _; rw [← hr1, ← hr2]
  unfold moVal
  clear h hbW hN hco hr1 hr2 e2
  by_cases hz : r2 = 0
  rotate_left
  · have hres : Hid (Md.check m = (r1, r2)) := by show _ = _; rw [← HE.out]; exact ve_check (by rw [HE.out]; exact hz)
    have hzB : (r2 != 0) = true := by simpa using hz
    go_enter Tryz.func39, Tryz.ntmps39
    go_wp2_with (go_at_call 55; refine calls_at H34.out (by with_reducible rfl) (by with_reducible rfl) ?_; rintro e w1 ⟨rfl, hb1⟩)
    go_ret2
    exact ⟨ret_pair hres.out.symm, HB.out.trans (hb1.mono HB.out.size)⟩
  subst hz
  have HZ : Hid (Md.fewB m.vars.length 32 = false ∧ ∀ j, j < m.vars.length → Md.vFault m.vars j = 0) := ve_zero (by rw [HE.out])
  clear HE
  have hv32 : m.vars.length ≤ 32 := by
    have := of_decide_eq_false HZ.out.1
    omega
  have hv32I : (m.vars.length : Int) ≤ 32 := by omega
  by_cases hc64 : 64 < m.cons.length
  · have hcI : (64 : Int) < (m.cons.length : Int) := by omega
    have hres : Hid (Md.check m = ((m.vars.length : Int), 49)) := ck_cons HZ.out.1 HZ.out.2 hc64
    go_enter Tryz.func39, Tryz.ntmps39
    go_wp2_with (go_at_call 55; refine calls_at H34.out (by with_reducible rfl) (by with_reducible rfl) ?_; rintro e w1 ⟨rfl, hb1⟩; have HB1 : Hid (Below W.heap.size W w1) := hb1; clear hb1 p0 p1 p2 p3; obtain ⟨⟨p0, p1, p2, p3⟩, _⟩ := box4 (HN.out _ HB1.out))
    go_ret2
    exact ⟨ret_pair hres.out.symm, HB.out.trans (HB1.out.mono HB.out.size)⟩
  have hcI : ¬ (64 : Int) < (m.cons.length : Int) := by omega
  go_enter Tryz.func39, Tryz.ntmps39
  go_wp2_with (go_at_call 55; refine calls_at H34.out (by with_reducible rfl) (by with_reducible rfl) ?_; rintro e w1 ⟨rfl, hb1⟩; have HB1 : Hid (Below W.heap.size W w1) := hb1; clear hb1 p0 p1 p2 p3; obtain ⟨⟨p0, p1, p2, p3⟩, _⟩ := box4 (HN.out _ HB1.out))
  go_loopw [7] (fun iv wr => ∃ k : Nat, iv = .int .i64 (k : Int) ∧ k ≤ m.cons.length ∧ Hid (∀ j, j < k → Md.cFault m.cons m.vars.length j = 0) ∧ Hid (Below W.heap.size W wr)) (fun iv _ => m.cons.length - (intOf iv).toNat)
  case atStart => exact ⟨0, rfl, Nat.zero_le _, fun j h => absurd h (Nat.not_lt_zero _), HB1⟩
  case round =>
    obtain ⟨i, rfl, hi, hP, hT⟩ := hrel
    clear p0 p1 p2 p3
    obtain ⟨⟨p0, p1, p2, p3⟩, _⟩ := box4 (HN.out _ hT.out)
    by_cases hit : i < m.cons.length
    · have hiI : (i : Int) < (m.cons.length : Int) := by omega
      obtain ⟨b, off, rfl, hb, hc⟩ := HCO.out (by omega)
      obtain ⟨vt, vx, vb, vr, hcn, hcl⟩ := hc i hit
      have hbw : Below w.heap.size w wr := HB.out.trans (hT.out.mono HB.out.size)
      obtain ⟨e0, e1, e2, e3, e4, e5, e6, e7, e8, e9⟩ := hcl.below hbw
      have HCN : Hid (CnAt wr m.cons[i] vt vx vb vr) := hcn.below hbw
      have HG : Hid (Md.cFault m.cons m.vars.length i = Md.fault m.cons[i] m.vars.length) := Md.cFault_get hit
      obtain ⟨ta, tc, rfl, _⟩ := hcn.t.form
      obtain ⟨xa, xc, rfl, _⟩ := hcn.x.form
      obtain ⟨ba, bc, rfl, _⟩ := hcn.b.form
      obtain ⟨ra, rc, rfl, _⟩ := hcn.r.form
      clear hc hcn hcl hbw
      generalize hx : m.cons[i] = c at *
      clear hx
      obtain ⟨r, hr⟩ : ∃ r, Md.fault c m.vars.length = r := ⟨_, rfl⟩
      have HGR : Hid (Md.cFault m.cons m.vars.length i = r) := HG.out.trans hr
      have H35 : Hid (Calls Tryz.prog 56 #[cnVal c (.slice ta c.terms.length tc) (.slice xa c.xs.length xc) (.slice ba c.table.length bc) (.slice ra c.rows.length rc), .int .i64 (m.vars.length : Int)] wr fun e w' => e = .returned (.int .i64 r) ∧ Below wr.heap.size wr w') := by rw [← hr]; exact refCon_any foreign_ok c _ _ _ _ (m.vars.length : Int) wr HCN.out
      unfold cnVal at H35
      clear hr HG HCN
      by_cases hz : r = 0
      · subst hz
        go_wp2_with (go_at_call 56; refine calls_at H35.out (by with_reducible rfl) (by with_reducible rfl) ?_; rintro e w2 ⟨rfl, hb2⟩; have HF2 : Hid (Below W.heap.size W w2) := hT.out.trans (hb2.mono hT.out.size); clear hb2)
        go_roundw
        case rel => exact ⟨i + 1, by go_num, by omega, all_succ hP.out HGR.out, HF2⟩
        case measure => simp [intOf]; omega
      · have hzB : (r != 0) = true := by simpa using hz
        have hres : Hid (Md.check m = ((m.vars.length : Int) + (i : Int), r)) := by show _ = _; rw [← HGR.out]; exact ck_con HZ.out.1 HZ.out.2 hc64 hit (by rw [HGR.out]; exact hz) hP.out
        go_wp2_with (go_at_call 56; refine calls_at H35.out (by with_reducible rfl) (by with_reducible rfl) ?_; rintro e w2 ⟨rfl, hb2⟩; have HF2 : Hid (Below W.heap.size W w2) := hT.out.trans (hb2.mono hT.out.size); clear hb2)
        go_ret2
        exact ⟨ret_pair hres.out.symm, HB.out.trans (HF2.out.mono HB.out.size)⟩
    · have hiI : ¬ (i : Int) < (m.cons.length : Int) := by omega
      have HCl : Hid (∀ j, j < m.cons.length → Md.cFault m.cons m.vars.length j = 0) := fun j hj => hP.out j (by omega)
      have HBad : Hid (∀ r, Md.goalFault m = r → r ≠ 0 → Md.check m = ((m.vars.length : Int) + (m.cons.length : Int), r)) := fun r hr h0 => by rw [← hr]; exact ck_goal HZ.out.1 HZ.out.2 hc64 HCl.out (by rw [hr]; exact h0)
      have HOk : Hid (Md.goalFault m = 0 → Md.check m = (0, 0)) := fun hr => ck_ok HZ.out.1 HZ.out.2 hc64 HCl.out hr
      have HEnd : Hid (Below w.heap.size w wr) := HB.out.trans (hT.out.mono HB.out.size)
      cases hh : m.has
      · rw [hh] at p2
        by_cases hg : 0 < m.goal.length
        · have hres : Hid (Md.check m = ((m.vars.length : Int) + (m.cons.length : Int), 48)) := HBad.out 48 (gf_a hh hg) (by decide)
          have hgI : (0 : Int) < (m.goal.length : Int) := by omega
          go_wp2_with fail
          go_ret2
          exact ⟨ret_pair hres.out.symm, HEnd.out⟩
        · have hres : Hid (Md.check m = (0, 0)) := HOk.out (gf_b hh hg)
          have hgI : ¬ (0 : Int) < (m.goal.length : Int) := by omega
          go_wp2_with fail
          go_ret2
          exact ⟨ret_pair hres.out.symm, HEnd.out⟩
      rw [hh] at p2
      have HH : Hid (m.has = true) := hh
      clear hh
      cases hf : Md.fewB m.goal.length 64
      rotate_left
      · have hres : Hid (Md.check m = ((m.vars.length : Int) + (m.cons.length : Int), 47)) := HBad.out 47 (gf_c HH.out hf) (by decide)
        go_wp2_with (go_at_call 57; refine (many_any m.goal.length _).mono ?_; rintro e w' ⟨rfl, hww⟩; rw [hww]; clear hww)
        go_ret2
        exact ⟨ret_pair hres.out.symm, HEnd.out⟩
      have HTG : Hid (Md.goalFault m = termsE m.goal m.vars.length) := te_goal HH.out hf
      have H37 : Hid (Calls Tryz.prog 58 #[.slice ga m.goal.length gp, .int .i64 (m.vars.length : Int)] wr fun e w' => e = .returned (.int .i64 (termsE m.goal m.vars.length)) ∧ w' = wr) := terms_any _ m.goal (m.vars.length : Int) wr (HM.out _ hT.out).g
      obtain ⟨r, hr⟩ : ∃ r, termsE m.goal m.vars.length = r := ⟨_, rfl⟩
      rw [hr] at HTG H37
      clear hr
      by_cases hz : r = 0
      · subst hz
        have hres : Hid (Md.check m = (0, 0)) := HOk.out HTG.out
        go_wp2_with (first | (go_at_call 57; refine (many_any m.goal.length _).mono ?_; rintro e w' ⟨rfl, hww⟩; rw [hww]; clear hww) | (go_at_call 58; refine calls_at H37.out (by with_reducible rfl) (by with_reducible rfl) ?_; rintro e w' ⟨rfl, hww⟩; rw [hww]; clear hww))
        go_ret2
        exact ⟨ret_pair hres.out.symm, HEnd.out⟩
      · have hzB : (r != 0) = true := by simpa using hz
        have hres : Hid (Md.check m = ((m.vars.length : Int) + (m.cons.length : Int), r)) := HBad.out r HTG.out hz
        go_wp2_with (first | (go_at_call 57; refine (many_any m.goal.length _).mono ?_; rintro e w' ⟨rfl, hww⟩; rw [hww]; clear hww) | (go_at_call 58; refine calls_at H37.out (by with_reducible rfl) (by with_reducible rfl) ?_; rintro e w' ⟨rfl, hww⟩; rw [hww]; clear hww))
        go_ret2
        exact ⟨ret_pair hres.out.symm, HEnd.out⟩

end Go.Proofs.YtdfbmfikhccajaaGreatDoor.Doc
