/-
  Solution: the program's.
-/
import Derived.Test.YtmhfabnpfkkbcaaMdV6
namespace Go.Proofs.Ytmhfabnpfkkbcaa
open Go.RowKit

set_option maxRecDepth 10000 in
set_option maxHeartbeats 400000 in
theorem clos49 (c : Md.Cn) (vt vx vb vr vv : Value) (vs : List Int) (q : Nat) (w : World) (hC : CnAt w c vt vx vb vr) (hV : IntsAt w vv vs) (hq : w.cell? ⟨q, 0, none⟩ = some vv) (hf : Md.fault c vs.length = 0) (hn : vs.all Md.numB = true) :
    Calls Try.prog 43 #[cnVal c vt vx vb vr, .pointer (some ⟨q, 0, none⟩)] w fun e w' => e = .returned (.bool (Md.hold c vs)) ∧ Below w.heap.size w w' := by
  obtain ⟨W, hW⟩ : ∃ W, w.alloc (.cells #[.int .i64 c.kind, .int .i64 c.op, vt, .int .i64 c.k, .int .i64 c.v, .int .i64 c.x, .int .i64 c.y, vx, vb, vr] 40) = W := ⟨_, rfl⟩
  have hbW : Below w.heap.size w W := by rw [← hW]; exact (Below.refl _ _).alloc (Nat.le_refl _) _
  have hN : W.heap[w.heap.size]? = some (.cells #[.int .i64 c.kind, .int .i64 c.op, vt, .int .i64 c.k, .int .i64 c.v, .int .i64 c.x, .int .i64 c.y, vx, vb, vr] 40) := by rw [← hW]; exact heap_alloc_new w _
  have HB : Hid (Below w.heap.size w W) := hbW
  have H50 : Hid (Calls Try.prog 34 #[cnVal c vt vx vb vr, vv] W fun e w' => e = .returned (.bool (Md.hold c vs)) ∧ Below W.heap.size W w') := hold_any c vt vx vb vr vv vs W (hC.below hbW) (hV.below hbW) hf hn
  have hq' := one_next hbW hq
  obtain ⟨ta, tc, rfl, _⟩ := hC.t.form
  obtain ⟨xa, xc, rfl, _⟩ := hC.x.form
  obtain ⟨ba, bc, rfl, _⟩ := hC.b.form
  obtain ⟨ra, rc, rfl, _⟩ := hC.r.form
  obtain ⟨va, vp, rfl, _⟩ := hV.form
  obtain ⟨⟨p0, p1, p2, p3, p4, p5, p6, p7, p8, p9⟩, _⟩ := box10 hN
  unfold cnVal at H50 ⊢
  clear hC hV hf hn hbW hN hq
  go_enter Try.func43, Try.ntmps43
  go_wp2_with (go_at_call 34; refine calls_at H50.out (by with_reducible rfl) (by with_reducible rfl) ?_; rintro e w1 ⟨rfl, hb1⟩)
  go_ret
  exact ⟨rfl, HB.out.trans (hb1.mono HB.out.size)⟩

set_option maxRecDepth 10000 in
set_option maxHeartbeats 1000000 in
theorem everyC_hold (vc vv : Value) (l : List Md.Cn) (vs : List Int) (q : Nat) (w : World) (hc : ConsAt w vc l) (hV : IntsAt w vv vs) (hq : w.cell? ⟨q, 0, none⟩ = some vv) (hf : ∀ c ∈ l, Md.fault c vs.length = 0) (hn : vs.all Md.numB = true) :
    Calls Try.prog 42 #[vc, .func (.func 43) #[] #[.pointer (some ⟨q, 0, none⟩)]] w fun e w' => e = .returned (.bool (l.all fun c => Md.hold c vs)) ∧ Below w.heap.size w w' := by
  have HH : Hid (∀ (w' : World) (c : Md.Cn) (vt vx vb vr : Value), Below w.heap.size w w' → CnAt w' c vt vx vb vr → Md.fault c vs.length = 0 → Calls Try.prog 43 #[cnVal c vt vx vb vr, .pointer (some ⟨q, 0, none⟩)] w' fun e w'' => e = .returned (.bool (Md.hold c vs)) ∧ Below w'.heap.size w' w'') := fun w' c vt vx vb vr hb h1 h2 =>
    clos49 c vt vx vb vr vv vs q w' h1 (hV.below hb) (one_next hb hq) h2 hn
  obtain ⟨a, cap, rfl, hm, ho⟩ := hc
  unfold maxLen at hm
  have HC : Hid (0 < l.length → ∃ b off, a = some ⟨b, off, none⟩ ∧ b < w.heap.size ∧ ∀ j (h : j < l.length), ∃ vt vx vb vr, CnAt w l[j] vt vx vb vr ∧ CnCells w b (off + j * 10) l[j] vt vx vb vr) := ho
  have HF : Hid (∀ c ∈ l, Md.fault c vs.length = 0) := hf
  obtain ⟨f, hfd⟩ : ∃ f : Md.Cn → Bool, (fun c => Md.hold c vs) = f := ⟨_, rfl⟩
  have HFD : Hid ((fun c => Md.hold c vs) = f) := hfd
  rw [hfd]
  clear ho hV hq hf hn hfd
  go_enter Try.func42, Try.ntmps42
  go_wp2
  go_loopw [9] (fun iv wr => ∃ k : Nat, iv = .int .i64 (k : Int) ∧ k ≤ l.length ∧ Hid ((l.take k).all f = true) ∧ Hid (Below w.heap.size w wr)) (fun iv _ => l.length - (intOf iv).toNat)
  case atStart => exact ⟨0, rfl, Nat.zero_le _, (show _ = _ by simp), Below.refl _ _⟩
  case round =>
    obtain ⟨k, rfl, hk, hA, hR⟩ := hrel
    by_cases hlt : k < l.length
    · have hkI : (k : Int) < (l.length : Int) := by omega
      obtain ⟨b, off, rfl, hb, hc⟩ := HC.out (by omega)
      obtain ⟨vt, vx, vb, vr, hcn, hcl⟩ := hc k hlt
      obtain ⟨e0, e1, e2, e3, e4, e5, e6, e7, e8, e9⟩ := hcl.below hR.out
      obtain ⟨ta, tc, rfl, _⟩ := hcn.t.form
      obtain ⟨xa, xc, rfl, _⟩ := hcn.x.form
      obtain ⟨ba, bc, rfl, _⟩ := hcn.b.form
      obtain ⟨ra, rc, rfl, _⟩ := hcn.r.form
      have HCN : Hid (CnAt wr l[k] (.slice ta l[k].terms.length tc) (.slice xa l[k].xs.length xc) (.slice ba l[k].table.length bc) (.slice ra l[k].rows.length rc)) := hcn.below hR.out
      have HNo : Hid (f l[k] = false → l.all f = false) := fun h => Md.all_stop hlt h
      have HYes : Hid (f l[k] = true → (l.take (k + 1)).all f = true) := fun h => Md.all_next hA.out hlt h
      have HK : Hid (f l[k] = Md.hold l[k] vs) := by show _ = _; rw [← HFD.out]
      have HF0 : Hid (Md.fault l[k] vs.length = 0) := HF.out _ (List.getElem_mem hlt)
      clear hc hcn hcl
      generalize l[k] = c at *
      obtain ⟨V, hV⟩ : ∃ V, wr.alloc (.cells #[.int .i64 c.kind, .int .i64 c.op, .slice ta c.terms.length tc, .int .i64 c.k, .int .i64 c.v, .int .i64 c.x, .int .i64 c.y, .slice xa c.xs.length xc, .slice ba c.table.length bc, .slice ra c.rows.length rc] 40) = V := ⟨_, rfl⟩
      have hbV : Below wr.heap.size wr V := by rw [← hV]; exact (Below.refl _ _).alloc (Nat.le_refl _) _
      have hNV : V.heap[wr.heap.size]? = some (.cells #[.int .i64 c.kind, .int .i64 c.op, .slice ta c.terms.length tc, .int .i64 c.k, .int .i64 c.v, .int .i64 c.x, .int .i64 c.y, .slice xa c.xs.length xc, .slice ba c.table.length bc, .slice ra c.rows.length rc] 40) := by rw [← hV]; exact heap_alloc_new wr _
      obtain ⟨⟨q0, q1, q2, q3, q4, q5, q6, q7, q8, q9⟩, _⟩ := box10 hNV
      have HRV : Hid (Below w.heap.size w V) := hR.out.trans (hbV.mono hR.out.size)
      have HU : Hid (Calls Try.prog 43 #[.agg #[.int .i64 c.kind, .int .i64 c.op, .slice ta c.terms.length tc, .int .i64 c.k, .int .i64 c.v, .int .i64 c.x, .int .i64 c.y, .slice xa c.xs.length xc, .slice ba c.table.length bc, .slice ra c.rows.length rc], .pointer (some ⟨q, 0, none⟩)] V fun e w' => e = .returned (.bool (f c)) ∧ Below V.heap.size V w') := by rw [HK.out]; exact HH.out V c _ _ _ _ HRV.out (HCN.out.below hbV) HF0.out
      clear hbV hNV
      cases hp : f c
      · rw [hp] at HU
        have hres : Hid (l.all f = false) := HNo.out hp
        clear hp
        go_wp2_with (go_at_call 43; refine calls_at HU.out (by with_reducible rfl) (by with_reducible rfl) ?_; rintro e w2 ⟨rfl, hb2⟩)
        go_ret
        exact ⟨ret_bool hres.out.symm, HRV.out.trans (hb2.mono HRV.out.size)⟩
      · rw [hp] at HU
        have hnx : Hid ((l.take (k + 1)).all f = true) := HYes.out hp
        clear hp
        go_wp2_with (go_at_call 43; refine calls_at HU.out (by with_reducible rfl) (by with_reducible rfl) ?_; rintro e w2 ⟨rfl, hb2⟩)
        go_roundw
        case rel => exact ⟨k + 1, by go_num, by omega, hnx, HRV.out.trans (hb2.mono HRV.out.size)⟩
        case measure => simp [intOf]; omega
    · have hkI : ¬ (k : Int) < (l.length : Int) := by omega
      have hres : Hid (l.all f = true) := Md.all_done hA.out (by omega)
      go_wp2_with fail
      go_ret
      exact ⟨ret_bool hres.out.symm, hR.out⟩

theorem Md.inside_num {m : Md.Mo} {vs : List Int} (h : Md.Right m) (hi : Md.insideB m.vars vs = true) : vs.length = m.vars.length ∧ vs.all Md.numB = true := by
  obtain ⟨h1, h2⟩ := Md.inside_iff.1 hi
  refine ⟨h1, ?_⟩
  rw [List.all_eq_true]
  intro x hx
  obtain ⟨j, hj, rfl⟩ := List.getElem_of_mem hx
  have hb := Md.bounds_of (h.var _ (List.getElem_mem (show j < m.vars.length by omega))).2
  have := h2 j (by omega) hj
  simp [Md.numB]
  omega
theorem Md.sol_r {m : Md.Mo} {vs : List Int} (h : Md.rightB m = false) : Md.solution m vs = false := by
  unfold Md.solution
  rw [decide_eq_false (by simpa [Md.rightB] using h)]; rfl
theorem Md.sol_i {m : Md.Mo} {vs : List Int} (h : Md.insideB m.vars vs = false) : Md.solution m vs = false := by
  unfold Md.solution
  rw [h]; simp
theorem Md.sol_h {m : Md.Mo} {vs : List Int} (h : Md.rightB m = true) (h2 : Md.insideB m.vars vs = true) : Md.solution m vs = m.cons.all fun c => Md.hold c vs := by
  unfold Md.solution
  rw [h2, decide_eq_true (by simpa [Md.rightB] using h)]; rfl

set_option maxRecDepth 10000 in
set_option maxHeartbeats 1000000 in
theorem solution_any (m : Md.Mo) (vv vc vg vx : Value) (vs : List Int) (w : World) (h : MoAt w m vv vc vg) (hx : IntsAt w vx vs) : Calls Try.prog 18 #[moVal m vv vc vg, vx] w fun e w' => e = .returned (.bool (Md.solution m vs)) ∧ Below w.heap.size w w' := by
  obtain ⟨xa, xc, rfl, hxm⟩ := hx.form
  obtain ⟨va, vp, rfl, hvm⟩ := h.v.form
  obtain ⟨ca, cp, rfl, hcm⟩ := h.c.form
  obtain ⟨ga, gp, rfl, hgm⟩ := h.g.form
  obtain ⟨W0, hW0⟩ : ∃ W, w.alloc (.cells #[.slice va m.vars.length vp, .slice ca m.cons.length cp, .bool m.has, .slice ga m.goal.length gp] 26) = W := ⟨_, rfl⟩
  have hb0 : Below w.heap.size w W0 := by rw [← hW0]; exact (Below.refl _ _).alloc (Nat.le_refl _) _
  have hN0 : W0.heap[w.heap.size]? = some (.cells #[.slice va m.vars.length vp, .slice ca m.cons.length cp, .bool m.has, .slice ga m.goal.length gp] 26) := by rw [← hW0]; exact heap_alloc_new w _
  have hs0 : W0.heap.size = w.heap.size + 1 := by rw [← hW0]; simp
  obtain ⟨W, hW⟩ : ∃ W, W0.alloc (.cells #[.slice xa vs.length xc] 27) = W := ⟨_, rfl⟩
  have hb1 : Below W0.heap.size W0 W := by rw [← hW]; exact (Below.refl _ _).alloc (Nat.le_refl _) _
  have hbW : Below w.heap.size w W := hb0.trans (hb1.mono hb0.size)
  have hN : W.heap[w.heap.size]? = some (.cells #[.slice va m.vars.length vp, .slice ca m.cons.length cp, .bool m.has, .slice ga m.goal.length gp] 26) := (hb1.block _ (by omega)).trans hN0
  have hq : W.cell? ⟨w.heap.size + 1, 0, none⟩ = some (.slice xa vs.length xc) := by rw [← hs0, ← hW]; simp
  have HB : Hid (Below w.heap.size w W) := hbW
  have HM : Hid (∀ w', Below W.heap.size W w' → MoAt w' m (.slice va m.vars.length vp) (.slice ca m.cons.length cp) (.slice ga m.goal.length gp)) := fun w' hb => (h.below hbW).below hb
  have HX : Hid (∀ w', Below W.heap.size W w' → IntsAt w' (.slice xa vs.length xc) vs) := fun w' hb => (hx.below hbW).below hb
  have HN : Hid (∀ w', Below W.heap.size W w' → w'.heap[w.heap.size]? = some (.cells #[.slice va m.vars.length vp, .slice ca m.cons.length cp, .bool m.has, .slice ga m.goal.length gp] 26)) := fun w' hb => (hb.block _ (Array.getElem?_eq_some_iff.1 hN).1).trans hN
  have HQ : Hid (∀ w', Below W.heap.size W w' → w'.cell? ⟨w.heap.size + 1, 0, none⟩ = some (.slice xa vs.length xc)) := fun w' hb => one_next hb hq
  obtain ⟨⟨p0, p1, p2, p3⟩, _⟩ := box4 hN
  have H42 : Hid (Calls Try.prog 26 #[.agg #[.slice va m.vars.length vp, .slice ca m.cons.length cp, .bool m.has, .slice ga m.goal.length gp]] W fun e w' => e = .returned (.bool (Md.rightB m)) ∧ Below W.heap.size W w') := right_any m _ _ _ W (HM.out W (Below.refl _ _))
  unfold moVal
  clear h hbW hN hx hb0 hb1 hN0
  cases hr : Md.rightB m
  · have hres : Hid (Md.solution m vs = false) := Md.sol_r hr
    rw [hr] at H42
    clear hr
    go_enter Try.func18, Try.ntmps18
    go_wp2_with (go_at_call 26; refine calls_at H42.out (by with_reducible rfl) (by with_reducible rfl) ?_; rintro e w1 ⟨rfl, hb1⟩)
    go_ret
    exact ⟨ret_bool hres.out.symm, HB.out.trans (hb1.mono HB.out.size)⟩
  have HR : Hid (Md.rightB m = true) := hr
  rw [hr] at H42
  clear hr
  go_enter Try.func18, Try.ntmps18
  go_wp2_with fail
  refine calls_at H42.out (by with_reducible rfl) (by with_reducible rfl) ?_
  rintro e w1 ⟨rfl, hb1⟩
  have HB1 : Hid (Below W.heap.size W w1) := hb1
  clear hb1 p0 p1 p2 p3 hq
  obtain ⟨⟨p0, p1, p2, p3⟩, _⟩ := box4 (HN.out _ HB1.out)
  have hq := HQ.out _ HB1.out
  go_wp2_with fail
  refine calls_at (within_any _ _ m.vars vs w1 (HM.out _ HB1.out).v (HX.out _ HB1.out)) (by with_reducible rfl) (by with_reducible rfl) ?_
  rintro e w2 ⟨rfl, hb2⟩
  have HB2 : Hid (Below W.heap.size W w2) := HB1.out.trans (hb2.mono HB1.out.size)
  clear hb2 p0 p1 p2 p3 hq
  obtain ⟨⟨p0, p1, p2, p3⟩, _⟩ := box4 (HN.out _ HB2.out)
  cases hi : Md.insideB m.vars vs
  · have hres : Hid (Md.solution m vs = false) := Md.sol_i hi
    clear hi
    go_wp2_with fail
    go_ret
    exact ⟨ret_bool hres.out.symm, HB.out.trans (HB2.out.mono HB.out.size)⟩
  have hres : Hid (Md.solution m vs = m.cons.all fun c => Md.hold c vs) := Md.sol_h HR.out hi
  have hnum := Md.inside_num (Md.rightB_of HR.out) hi
  have H48 : Hid (Calls Try.prog 42 #[.slice ca m.cons.length cp, .func (.func 43) #[] #[.pointer (some ⟨w.heap.size + 1, 0, none⟩)]] w2 fun e w' => e = .returned (.bool (m.cons.all fun c => Md.hold c vs)) ∧ Below w2.heap.size w2 w') := everyC_hold _ _ m.cons vs (w.heap.size + 1) w2 (HM.out _ HB2.out).c (HX.out _ HB2.out) (HQ.out _ HB2.out) (fun c hc => by rw [hnum.1]; exact (Md.rightB_of HR.out).con c hc) hnum.2
  clear hi hnum
  go_wp2_with (go_at_call 42; refine calls_at H48.out (by with_reducible rfl) (by with_reducible rfl) ?_; rintro e w3 ⟨rfl, hb3⟩; have HB3 : Hid (Below W.heap.size W w3) := HB2.out.trans (hb3.mono HB2.out.size); clear hb3)
  go_ret
  exact ⟨ret_bool hres.out.symm, HB.out.trans (HB3.out.mono HB.out.size)⟩
end Go.Proofs.Ytmhfabnpfkkbcaa
