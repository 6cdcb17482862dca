/-
  Put together: AuAnswer, AuSame, AuKn, AuKm, AuKnow, ApLaw.
-/
import Derived.Test.YtjgghimjnbjlbaaGreatDoorJ48
import Derived.Test.YtjgghimjnbjlbaaGreatDoorAwProg
import Derived.BigQuiet
import Derived.Deep.CutRange
namespace Go.Proofs.YtjgghimjnbjlbaaGreatDoor
open Go Go.RowKit Go.Shelf Go.Lib
attribute [local go_sem] Oper.semAt_some

/-- How a call ends that answers a verdict. -/
def VdO (d : Int × Int × List Int) (w : World) (e : Ending) (W : World) : Prop := Below w.heap.size w W ∧ ∃ v B, e = .returned (.agg (vdC d.1 d.2.1 0 v)) ∧ w.heap.size ≤ B ∧ W.ownsRow B 3 1 v d.2.2.length (d.2.2.map (.int .i64))
def lstD (m : Md.Mo) : Int × Int × List Int := match bst m (allSols m) with
  | none => (2, 0, [])
  | some (b, y) => (4, b, y)
def fstD (m : Md.Mo) : Int × Int × List Int := match allSols m with
  | [] => (2, 0, [])
  | x :: _ => (3, 0, x)
def ansD (m : Md.Mo) : Int × Int × List Int := if m.has = true then lstD m else fstD m
theorem own_nil (w : World) (B : Nat) : w.ownsRow B 3 1 (.slice none 0 0) 0 [] := ⟨rfl, .inl ⟨rfl, rfl⟩⟩
theorem own_sl {w : World} {B : Nat} {v : Value} {n : Nat} {xs : List Value} (h : w.ownsRow B 3 1 v n xs) : ∃ a c, v = .slice a n c := by
  rcases h.2 with ⟨rfl, h0⟩ | ⟨g', cap, cur, rfl, _⟩
  · exact ⟨none, 0, by rw [h0]⟩
  · exact ⟨_, _, rfl⟩
theorem first_vd (m : Md.Mo) (vv vc vg : Value) (w : World) (h : MoAt w m vv vc vg) : Calls Tryz.prog 35 #[moVal m vv vc vg] w (VdO (fstD m) w) := by
  refine (au_first m vv vc vg w h).mono ?_
  rintro e W ⟨hb, h | ⟨x, q, v, B, h1, h2, h3, h4⟩⟩
  · refine ⟨hb, .slice none 0 0, w.heap.size, ?_, Nat.le_refl _, ?_⟩ <;> unfold fstD <;> rw [h.1]
    · exact h.2
    · exact own_nil _ _
  · refine ⟨hb, v, B, ?_, h3, ?_⟩ <;> unfold fstD <;> rw [h1]
    · exact h2
    · exact h4
theorem least_vd (m : Md.Mo) (vv vc vg : Value) (w : World) (h : MoAt w m vv vc vg) : Calls Tryz.prog 34 #[moVal m vv vc vg] w (VdO (lstD m) w) := by
  refine (au_least m vv vc vg w h).mono ?_
  rintro e W ⟨hb, h⟩
  refine ⟨hb, ?_⟩
  unfold lstD
  cases hh : bst m (allSols m) with
  | none => rw [hh] at h; exact ⟨_, w.heap.size, h, Nat.le_refl _, own_nil _ _⟩
  | some o =>
    obtain ⟨b, y⟩ := o
    rw [hh] at h
    exact h
/-- How Answer ends. -/
def AnO (m : Md.Mo) (w : World) (e : Ending) (W : World) : Prop := Below w.heap.size w W ∧ (((Md.product m 100000).2 = false ∧ e = .returned (.tuple #[.agg #[.int .i64 0, .int .i64 0, .int .i64 0, .int .i64 0, .slice none 0 0], .bool false])) ∨
  ((Md.product m 100000).2 = true ∧ ∃ v B, e = .returned (.tuple #[.agg (vdC (ansD m).1 (ansD m).2.1 0 v), .bool true]) ∧ w.heap.size ≤ B ∧ W.ownsRow B 3 1 v (ansD m).2.2.length ((ansD m).2.2.map (.int .i64))))

set_option maxRecDepth 100000 in
set_option maxHeartbeats 4000000 in
theorem au_answer (m : Md.Mo) (vv vc vg : Value) (w : World) (h : MoAt w m vv vc vg) : Calls Tryz.prog 12 #[moVal m vv vc vg] w (AnO m w) := by
  obtain ⟨va, vp, rfl, hvm⟩ := h.v.form
  obtain ⟨ca, cp, rfl, hcm⟩ := h.c.form
  obtain ⟨ga, gp, rfl, hgm⟩ := h.g.form
  obtain ⟨W1, hW1⟩ : ∃ W, w.alloc (.cells #[.slice va m.vars.length vp, .slice ca m.cons.length cp, .bool m.has, .slice ga m.goal.length gp] 26) = W := ⟨_, rfl⟩
  have g1 : W1.heap[w.heap.size]? = some (.cells #[.slice va m.vars.length vp, .slice ca m.cons.length cp, .bool m.has, .slice ga m.goal.length gp] 26 (0, 0)) := by rw [← hW1]; exact heap_alloc_new w _
  have b1 : Below w.heap.size w W1 := by rw [← hW1]; exact (Below.refl _ _).alloc (Nat.le_refl _) _
  have z1 : W1.heap.size = w.heap.size + 1 := by rw [← hW1]; exact Array.size_push _
  obtain ⟨W2, hW2⟩ : ∃ W, W1.alloc (.cells #[.int .i64 0, .int .i64 0, .int .i64 0, .int .i64 0, .slice none 0 0] 39) = W := ⟨_, rfl⟩
  have g2 : W2.heap[w.heap.size + 1]? = some (.cells #[.int .i64 0, .int .i64 0, .int .i64 0, .int .i64 0, .slice none 0 0] 39 (0, 0)) := by rw [← hW2, ← z1]; exact heap_alloc_new W1 _
  have b2 : Below w.heap.size w W2 := by rw [← hW2]; exact b1.alloc (by omega) _
  have z2 : W2.heap.size = w.heap.size + 2 := by
    have h : W2.heap.size = W1.heap.size + 1 := by rw [← hW2]; exact Array.size_push _
    omega
  have m2 : W2.heap[w.heap.size]? = some (.cells #[.slice va m.vars.length vp, .slice ca m.cons.length cp, .bool m.has, .slice ga m.goal.length gp] 26 (0, 0)) := by rw [← hW2]; exact (Below.heap_alloc _ _ _ (by omega)).trans g1
  have p0 := cell_of m2 0
  have p1 := cell_of m2 1
  have p2 := cell_of m2 2
  have p3 := cell_of m2 3
  dsimp at p0 p1 p2 p3
  have HW2 : Hid (Below w.heap.size w W2) := b2
  have HZW : Hid (W2.heap.size = w.heap.size + 2) := z2
  have HGW : Hid (W2.heap[w.heap.size + 1]? = some (.cells #[.int .i64 0, .int .i64 0, .int .i64 0, .int .i64 0, .slice none 0 0] 39 (0, 0))) := g2
  have HMW : Hid (W2.heap[w.heap.size]? = some (.cells #[.slice va m.vars.length vp, .slice ca m.cons.length cp, .bool m.has, .slice ga m.goal.length gp] 26 (0, 0))) := m2
  have hC := countable_any m _ _ _ W2 (h.below b2)
  have HMo : Hid (∀ W, Below w.heap.size w W → MoAt W m (.slice va m.vars.length vp) (.slice ca m.cons.length cp) (.slice ga m.goal.length gp)) := fun W hb => h.below hb
  unfold moVal at hC ⊢
  clear h g1 b1 g2 b2 m2
  cases hs : (Md.product m 100000).2 with
  | false =>
    rw [hs] at hC
    go_enter Tryz.func12, Tryz.ntmps12
    go_wp2_with (go_at_call 28; refine hC.mono ?_; rintro e w2 ⟨rfl, hb2⟩; have HB2 : Hid (Below W2.heap.size W2 w2) := hb2; have HR2 : Hid (w2.heap[w.heap.size + 1]? = some (.cells #[.int .i64 0, .int .i64 0, .int .i64 0, .int .i64 0, .slice none 0 0] 39 (0, 0))) := (hb2.block _ (by have := HZW.out; omega)).trans HGW.out; have d0 := cell_of HR2.out 0; have d1 := cell_of HR2.out 1; have d2 := cell_of HR2.out 2; have d3 := cell_of HR2.out 3; have d4 := cell_of HR2.out 4; have e0 := frozen_of HR2.out 0; have e1 := frozen_of HR2.out 1; have e2 := frozen_of HR2.out 2; have e3 := frozen_of HR2.out 3; have e4 := frozen_of HR2.out 4; dsimp at d0 d1 d2 d3 d4; clear hb2)
    have z2 := HZW.out
    have hg5 := set5_at HR2.out (.int .i64 0) (.int .i64 0) (.int .i64 0) (.int .i64 0) (.slice none 0 0)
    have hb5 := set5_bl (HW2.out.trans (HB2.out.mono (by omega))) (w.heap.size + 1) (by omega) (.int .i64 0) (.int .i64 0) (.int .i64 0) (.int .i64 0) (.slice none 0 0)
    exact bodyPost_ret (res_wt Tryz.results12 _ _ (w.heap.size + 1) 39 #[.int .i64 0, .int .i64 0, .int .i64 0, .int .i64 0, .slice none 0 0] (0, 0) _ rfl hg5 Tryz.underlying39 rfl infV) rfl ⟨hb5, .inl ⟨hs, rfl⟩⟩
  | true =>
    rw [hs] at hC
    have HS : Hid ((Md.product m 100000).2 = true) := hs
    clear hs
    cases hh : m.has with
    | true =>
      have hD : ansD m = lstD m := by unfold ansD; rw [hh]; rfl
      have hL : ∀ W, Below w.heap.size w W → Calls Tryz.prog 34 #[.agg #[.slice va m.vars.length vp, .slice ca m.cons.length cp, .bool true, .slice ga m.goal.length gp]] W (VdO (lstD m) W) := fun W hb => by
        have := least_vd m _ _ _ W (HMo.out W hb)
        unfold moVal at this
        rwa [hh] at this
      obtain ⟨⟨k, wo, y⟩, hd⟩ : ∃ d, lstD m = d := ⟨_, rfl⟩
      have HD : Hid (ansD m = (k, wo, y)) := hD.trans hd
      rw [hd] at hL
      have HL : Hid (∀ W, Below w.heap.size w W → Calls Tryz.prog 34 #[.agg #[.slice va m.vars.length vp, .slice ca m.cons.length cp, .bool true, .slice ga m.goal.length gp]] W (VdO (k, wo, y) W)) := hL
      rw [hh] at hC p2 HMW hW1
      clear hD hd hL HMo hh
      go_enter Tryz.func12, Tryz.ntmps12
      go_wp2_with (first | (go_at_call 28; refine hC.mono ?_; rintro e w2 ⟨rfl, hb2⟩; have HB2 : Hid (Below W2.heap.size W2 w2) := hb2; have HR2 : Hid (w2.heap[w.heap.size + 1]? = some (.cells #[.int .i64 0, .int .i64 0, .int .i64 0, .int .i64 0, .slice none 0 0] 39 (0, 0))) := (hb2.block _ (by have := HZW.out; omega)).trans HGW.out; have HZ2 : Hid (w.heap.size + 2 ≤ w2.heap.size) := (by have := HZW.out; have := hb2.size; show _ ≤ _; omega); have HM2 := (hb2.block w.heap.size (by have := HZW.out; omega)).trans HMW.out; have q0 := cell_of HM2 0; have q1 := cell_of HM2 1; have q2 := cell_of HM2 2; have q3 := cell_of HM2 3; dsimp at q0 q1 q2 q3; have hLL := HL.out w2 (HW2.out.trans (hb2.mono (by have := HZW.out; omega))); clear hb2 HM2) | (go_at_call 34; refine (hLL).mono ?_; rintro e w3 ⟨hb3, v, B, rfl, hB, how⟩; obtain ⟨ya, yc, rfl⟩ := own_sl how; have HB3 : Hid (Below w2.heap.size w2 w3) := hb3; have HBB : Hid (w2.heap.size ≤ B) := hB; have HOw : Hid (w3.ownsRow B 3 1 (.slice ya y.length yc) y.length (y.map (.int .i64))) := how; have HR3 : Hid (w3.heap[w.heap.size + 1]? = some (.cells #[.int .i64 0, .int .i64 0, .int .i64 0, .int .i64 0, .slice none 0 0] 39 (0, 0))) := (hb3.block _ (by have := HZ2.out; omega)).trans HR2.out; have d0 := cell_of HR3.out 0; have d1 := cell_of HR3.out 1; have d2 := cell_of HR3.out 2; have d3 := cell_of HR3.out 3; have d4 := cell_of HR3.out 4; have e0 := frozen_of HR3.out 0; have e1 := frozen_of HR3.out 1; have e2 := frozen_of HR3.out 2; have e3 := frozen_of HR3.out 3; have e4 := frozen_of HR3.out 4; dsimp at d0 d1 d2 d3 d4; clear hb3 hB how; unfold vdC))
      have z2 := HZW.out
      have z3 := HZ2.out
      have z4 := HBB.out
      have hg5 := set5_at HR3.out (.int .i64 k) (.int .i64 0) (.int .i64 wo) (.int .i64 0) (.slice ya y.length yc)
      have hb5 := set5_bl ((HW2.out.trans (HB2.out.mono (by omega))).trans (HB3.out.mono (by omega))) (w.heap.size + 1) (by omega) (.int .i64 k) (.int .i64 0) (.int .i64 wo) (.int .i64 0) (.slice ya y.length yc)
      have ho5 := own_keep HOw.out fun g hg => set5_off w3 (w.heap.size + 1) (.int .i64 k) (.int .i64 0) (.int .i64 wo) (.int .i64 0) (.slice ya y.length yc) g (by have := (own_ge HOw.out hg).1; omega)
      refine bodyPost_ret (res_wt Tryz.results12 _ _ (w.heap.size + 1) 39 (vdC k wo 0 (.slice ya y.length yc)) (0, 0) _ rfl hg5 Tryz.underlying39 rfl infV) rfl ⟨hb5, .inr ⟨HS.out, ?_⟩⟩
      rw [HD.out]
      exact ⟨_, B, rfl, by omega, ho5⟩
    | false =>
      have hD : ansD m = fstD m := by unfold ansD; rw [hh]; rfl
      have hL : ∀ W, Below w.heap.size w W → Calls Tryz.prog 35 #[.agg #[.slice va m.vars.length vp, .slice ca m.cons.length cp, .bool false, .slice ga m.goal.length gp]] W (VdO (fstD m) W) := fun W hb => by
        have := first_vd m _ _ _ W (HMo.out W hb)
        unfold moVal at this
        rwa [hh] at this
      obtain ⟨⟨k, wo, y⟩, hd⟩ : ∃ d, fstD m = d := ⟨_, rfl⟩
      have HD : Hid (ansD m = (k, wo, y)) := hD.trans hd
      rw [hd] at hL
      have HL : Hid (∀ W, Below w.heap.size w W → Calls Tryz.prog 35 #[.agg #[.slice va m.vars.length vp, .slice ca m.cons.length cp, .bool false, .slice ga m.goal.length gp]] W (VdO (k, wo, y) W)) := hL
      rw [hh] at hC p2 HMW hW1
      clear hD hd hL HMo hh
      go_enter Tryz.func12, Tryz.ntmps12
      go_wp2_with (first | (go_at_call 28; refine hC.mono ?_; rintro e w2 ⟨rfl, hb2⟩; have HB2 : Hid (Below W2.heap.size W2 w2) := hb2; have HR2 : Hid (w2.heap[w.heap.size + 1]? = some (.cells #[.int .i64 0, .int .i64 0, .int .i64 0, .int .i64 0, .slice none 0 0] 39 (0, 0))) := (hb2.block _ (by have := HZW.out; omega)).trans HGW.out; have HZ2 : Hid (w.heap.size + 2 ≤ w2.heap.size) := (by have := HZW.out; have := hb2.size; show _ ≤ _; omega); have HM2 := (hb2.block w.heap.size (by have := HZW.out; omega)).trans HMW.out; have q0 := cell_of HM2 0; have q1 := cell_of HM2 1; have q2 := cell_of HM2 2; have q3 := cell_of HM2 3; dsimp at q0 q1 q2 q3; have hLL := HL.out w2 (HW2.out.trans (hb2.mono (by have := HZW.out; omega))); clear hb2 HM2) | (go_at_call 35; refine (hLL).mono ?_; rintro e w3 ⟨hb3, v, B, rfl, hB, how⟩; obtain ⟨ya, yc, rfl⟩ := own_sl how; have HB3 : Hid (Below w2.heap.size w2 w3) := hb3; have HBB : Hid (w2.heap.size ≤ B) := hB; have HOw : Hid (w3.ownsRow B 3 1 (.slice ya y.length yc) y.length (y.map (.int .i64))) := how; have HR3 : Hid (w3.heap[w.heap.size + 1]? = some (.cells #[.int .i64 0, .int .i64 0, .int .i64 0, .int .i64 0, .slice none 0 0] 39 (0, 0))) := (hb3.block _ (by have := HZ2.out; omega)).trans HR2.out; have d0 := cell_of HR3.out 0; have d1 := cell_of HR3.out 1; have d2 := cell_of HR3.out 2; have d3 := cell_of HR3.out 3; have d4 := cell_of HR3.out 4; have e0 := frozen_of HR3.out 0; have e1 := frozen_of HR3.out 1; have e2 := frozen_of HR3.out 2; have e3 := frozen_of HR3.out 3; have e4 := frozen_of HR3.out 4; dsimp at d0 d1 d2 d3 d4; clear hb3 hB how; unfold vdC))
      have z2 := HZW.out
      have z3 := HZ2.out
      have z4 := HBB.out
      have hg5 := set5_at HR3.out (.int .i64 k) (.int .i64 0) (.int .i64 wo) (.int .i64 0) (.slice ya y.length yc)
      have hb5 := set5_bl ((HW2.out.trans (HB2.out.mono (by omega))).trans (HB3.out.mono (by omega))) (w.heap.size + 1) (by omega) (.int .i64 k) (.int .i64 0) (.int .i64 wo) (.int .i64 0) (.slice ya y.length yc)
      have ho5 := own_keep HOw.out fun g hg => set5_off w3 (w.heap.size + 1) (.int .i64 k) (.int .i64 0) (.int .i64 wo) (.int .i64 0) (.slice ya y.length yc) g (by have := (own_ge HOw.out hg).1; omega)
      refine bodyPost_ret (res_wt Tryz.results12 _ _ (w.heap.size + 1) 39 (vdC k wo 0 (.slice ya y.length yc)) (0, 0) _ rfl hg5 Tryz.underlying39 rfl infV) rfl ⟨hb5, .inr ⟨HS.out, ?_⟩⟩
      rw [HD.out]
      exact ⟨_, B, rfl, by omega, ho5⟩

/-- How All ends. -/
def AlO (m : Md.Mo) (w : World) (e : Ending) (W : World) : Prop := Below w.heap.size w W ∧ (((Md.product m 100000).2 = false ∧ e = .returned (.tuple #[.agg #[.int .i64 0, .int .i64 0, .int .i64 0, .int .i64 0, .slice none 0 0], .bool false])) ∨
  ((Md.product m 100000).2 = true ∧ e = .returned (.tuple #[.agg (vdC 6 0 ((allSols m).length : Int) (.slice none 0 0)), .bool true])))
set_option maxRecDepth 100000 in
set_option maxHeartbeats 4000000 in
theorem au_all (m : Md.Mo) (vv vc vg : Value) (w : World) (h : MoAt w m vv vc vg) : Calls Tryz.prog 13 #[moVal m vv vc vg] w (AlO m w) := by
  obtain ⟨va, vp, rfl, hvm⟩ := h.v.form
  obtain ⟨ca, cp, rfl, hcm⟩ := h.c.form
  obtain ⟨ga, gp, rfl, hgm⟩ := h.g.form
  obtain ⟨W1, hW1⟩ : ∃ W, w.alloc (.cells #[.slice va m.vars.length vp, .slice ca m.cons.length cp, .bool m.has, .slice ga m.goal.length gp] 26) = W := ⟨_, rfl⟩
  have g1 : W1.heap[w.heap.size]? = some (.cells #[.slice va m.vars.length vp, .slice ca m.cons.length cp, .bool m.has, .slice ga m.goal.length gp] 26 (0, 0)) := by rw [← hW1]; exact heap_alloc_new w _
  have b1 : Below w.heap.size w W1 := by rw [← hW1]; exact (Below.refl _ _).alloc (Nat.le_refl _) _
  have z1 : W1.heap.size = w.heap.size + 1 := by rw [← hW1]; exact Array.size_push _
  obtain ⟨W2, hW2⟩ : ∃ W, W1.alloc (.cells #[.int .i64 0, .int .i64 0, .int .i64 0, .int .i64 0, .slice none 0 0] 39) = W := ⟨_, rfl⟩
  have g2 : W2.heap[w.heap.size + 1]? = some (.cells #[.int .i64 0, .int .i64 0, .int .i64 0, .int .i64 0, .slice none 0 0] 39 (0, 0)) := by rw [← hW2, ← z1]; exact heap_alloc_new W1 _
  have b2 : Below w.heap.size w W2 := by rw [← hW2]; exact b1.alloc (by omega) _
  have z2 : W2.heap.size = w.heap.size + 2 := by
    have h : W2.heap.size = W1.heap.size + 1 := by rw [← hW2]; exact Array.size_push _
    omega
  have m2 : W2.heap[w.heap.size]? = some (.cells #[.slice va m.vars.length vp, .slice ca m.cons.length cp, .bool m.has, .slice ga m.goal.length gp] 26 (0, 0)) := by rw [← hW2]; exact (Below.heap_alloc _ _ _ (by omega)).trans g1
  have p0 := cell_of m2 0
  have p1 := cell_of m2 1
  have p2 := cell_of m2 2
  have p3 := cell_of m2 3
  dsimp at p0 p1 p2 p3
  have HW2 : Hid (Below w.heap.size w W2) := b2
  have HZW : Hid (W2.heap.size = w.heap.size + 2) := z2
  have HGW : Hid (W2.heap[w.heap.size + 1]? = some (.cells #[.int .i64 0, .int .i64 0, .int .i64 0, .int .i64 0, .slice none 0 0] 39 (0, 0))) := g2
  have HMW : Hid (W2.heap[w.heap.size]? = some (.cells #[.slice va m.vars.length vp, .slice ca m.cons.length cp, .bool m.has, .slice ga m.goal.length gp] 26 (0, 0))) := m2
  have hC := au_count m _ _ _ W2 (h.below b2)
  unfold moVal at hC ⊢
  clear h g1 b1 g2 b2 m2
  obtain ⟨n, hn⟩ : ∃ n : Int, ((allSols m).length : Int) = n := ⟨_, rfl⟩
  rw [hn] at hC
  unfold AlO
  rw [hn]
  clear hn
  cases hs : (Md.product m 100000).2 with
  | false =>
    rw [hs] at hC
    go_enter Tryz.func13, Tryz.ntmps13
    go_wp2_with (go_at_call 11; refine hC.mono ?_; rintro e w2 ⟨rfl, hb2⟩; have HB2 : Hid (Below W2.heap.size W2 w2) := hb2; have HR2 : Hid (w2.heap[w.heap.size + 1]? = some (.cells #[.int .i64 0, .int .i64 0, .int .i64 0, .int .i64 0, .slice none 0 0] 39 (0, 0))) := (hb2.block _ (by have := HZW.out; omega)).trans HGW.out; have d0 := cell_of HR2.out 0; have d1 := cell_of HR2.out 1; have d2 := cell_of HR2.out 2; have d3 := cell_of HR2.out 3; have d4 := cell_of HR2.out 4; have e0 := frozen_of HR2.out 0; have e1 := frozen_of HR2.out 1; have e2 := frozen_of HR2.out 2; have e3 := frozen_of HR2.out 3; have e4 := frozen_of HR2.out 4; dsimp at d0 d1 d2 d3 d4; clear hb2)
    have z2 := HZW.out
    have hg5 := set5_at HR2.out (.int .i64 0) (.int .i64 0) (.int .i64 0) (.int .i64 0) (.slice none 0 0)
    have hb5 := set5_bl (HW2.out.trans (HB2.out.mono (by omega))) (w.heap.size + 1) (by omega) (.int .i64 0) (.int .i64 0) (.int .i64 0) (.int .i64 0) (.slice none 0 0)
    exact bodyPost_ret (res_wt Tryz.results13 _ _ (w.heap.size + 1) 39 #[.int .i64 0, .int .i64 0, .int .i64 0, .int .i64 0, .slice none 0 0] (0, 0) _ rfl hg5 Tryz.underlying39 rfl infV) rfl ⟨hb5, .inl ⟨trivial, rfl⟩⟩
  | true =>
    rw [hs] at hC
    go_enter Tryz.func13, Tryz.ntmps13
    go_wp2_with (go_at_call 11; refine hC.mono ?_; rintro e w2 ⟨rfl, hb2⟩; have HB2 : Hid (Below W2.heap.size W2 w2) := hb2; have HR2 : Hid (w2.heap[w.heap.size + 1]? = some (.cells #[.int .i64 0, .int .i64 0, .int .i64 0, .int .i64 0, .slice none 0 0] 39 (0, 0))) := (hb2.block _ (by have := HZW.out; omega)).trans HGW.out; have d0 := cell_of HR2.out 0; have d1 := cell_of HR2.out 1; have d2 := cell_of HR2.out 2; have d3 := cell_of HR2.out 3; have d4 := cell_of HR2.out 4; have e0 := frozen_of HR2.out 0; have e1 := frozen_of HR2.out 1; have e2 := frozen_of HR2.out 2; have e3 := frozen_of HR2.out 3; have e4 := frozen_of HR2.out 4; dsimp at d0 d1 d2 d3 d4; clear hb2)
    have z2 := HZW.out
    have hg5 := set5_at HR2.out (.int .i64 6) (.int .i64 0) (.int .i64 0) (.int .i64 n) (.slice none 0 0)
    have hb5 := set5_bl (HW2.out.trans (HB2.out.mono (by omega))) (w.heap.size + 1) (by omega) (.int .i64 6) (.int .i64 0) (.int .i64 0) (.int .i64 n) (.slice none 0 0)
    exact bodyPost_ret (res_wt Tryz.results13 _ _ (w.heap.size + 1) 39 #[.int .i64 6, .int .i64 0, .int .i64 0, .int .i64 n, .slice none 0 0] (0, 0) _ rfl hg5 Tryz.underlying39 rfl infV) rfl ⟨hb5, .inr ⟨trivial, rfl⟩⟩

end Go.Proofs.YtjgghimjnbjlbaaGreatDoor

namespace Go.Proofs.YtjgghimjnbjlbaaGreatDoor
open Go Go.RowKit Go.Shelf Go.Lib
attribute [local go_sem] Oper.semAt_some

set_option maxRecDepth 10000 in
set_option maxHeartbeats 1000000 in
theorem same_ints (v v' : Value) (c : List Int) (w : World) (h : MInts w v c) (h' : MInts w v' c) : Calls Tryz.prog 18 #[v, v'] w fun e w' => e = .returned (.bool true) ∧ Below w.heap.size w w' := by
  obtain ⟨a, cap, rfl, hl, hc⟩ := h
  obtain ⟨a', cap', rfl, _, hc'⟩ := h'
  unfold maxLen at hl
  have HC : Hid (∀ w', Below w.heap.size w w' → ∀ j (hj : j < c.length), ∃ g o, a = some ⟨g, o, none⟩ ∧ w'.cell? ⟨g, o + j, none⟩ = some (.int .i64 c[j])) := fun w' hb j hj => by
    obtain ⟨g, o, e1, e2, e3⟩ := hc (by omega)
    exact ⟨g, o, e1, (hb.cell (p := ⟨g, o + j, none⟩) e2).trans (e3 j hj)⟩
  have HC' : Hid (∀ w', Below w.heap.size w w' → ∀ j (hj : j < c.length), ∃ g o, a' = some ⟨g, o, none⟩ ∧ w'.cell? ⟨g, o + j, none⟩ = some (.int .i64 c[j])) := fun w' hb j hj => by
    obtain ⟨g, o, e1, e2, e3⟩ := hc' (by omega)
    exact ⟨g, o, e1, (hb.cell (p := ⟨g, o + j, none⟩) e2).trans (e3 j hj)⟩
  clear hc hc'
  go_enter Tryz.func18, Tryz.ntmps18
  go_wp2_with fail
  go_loopw [5] (fun iv wr => ∃ k : Nat, iv = .int .i64 (k : Int) ∧ k ≤ c.length ∧ Hid (Below w.heap.size w wr)) (fun iv _ => c.length - (RowKit.intOf iv).toNat)
  case atStart => exact ⟨0, rfl, Nat.zero_le _, Below.refl _ _⟩
  case round =>
    obtain ⟨k, rfl, hk, HBr⟩ := hrel
    by_cases hkn : k < c.length
    · have hkI : (k : Int) < (c.length : Int) := by omega
      obtain ⟨g, o, rfl, x0⟩ := HC.out wr HBr.out k hkn
      obtain ⟨g', o', rfl, y0⟩ := HC'.out wr HBr.out k hkn
      obtain ⟨y, hy⟩ : ∃ y, c[k] = y := ⟨_, rfl⟩
      rw [hy] at x0 y0
      have hyy : (y == y) = true := by simp
      clear hy
      go_wp2_with fail
      go_region
      all_goals
        go_wp2_with fail
        go_roundw
        case rel => exact ⟨k + 1, by go_num, hkn, HBr.out.drew⟩
        case measure => simp [RowKit.intOf]; omega
    · have hke : k = c.length := by omega
      subst hke
      have hkI : ¬ (c.length : Int) < (c.length : Int) := by omega
      go_wp2_with fail
      go_ret
      exact ⟨rfl, HBr.out⟩

set_option maxRecDepth 10000 in
set_option maxHeartbeats 1000000 in
theorem same_vd (k wo n : Int) (v v' : Value) (c : List Int) (w : World) (h : MInts w v c) (h' : MInts w v' c) : Calls Tryz.prog 14 #[.agg (vdC k wo n v), .agg (vdC k wo n v')] w fun e w' => e = .returned (.bool true) ∧ Below w.heap.size w w' := by
  have HI : Hid (∀ w', Below w.heap.size w w' → Calls Tryz.prog 18 #[v, v'] w' fun e w2 => e = .returned (.bool true) ∧ Below w'.heap.size w' w2) := fun w' hb => same_ints v v' c w' (h.below hb) (h'.below hb)
  obtain ⟨a, cap, rfl, _, _⟩ := h
  obtain ⟨a', cap', rfl, _, _⟩ := h'
  obtain ⟨l, hl⟩ : ∃ l, c.length = l := ⟨_, rfl⟩
  rw [hl] at HI ⊢
  obtain ⟨W1, hW1⟩ : ∃ W, w.alloc (.cells (vdC k wo n (.slice a l cap)) 39) = W := ⟨_, rfl⟩
  have g1 : W1.heap[w.heap.size]? = some (.cells (vdC k wo n (.slice a l cap)) 39 (0, 0)) := by rw [← hW1]; exact heap_alloc_new w _
  have b1 : Below w.heap.size w W1 := by rw [← hW1]; exact (Below.refl _ _).alloc (Nat.le_refl _) _
  have z1 : W1.heap.size = w.heap.size + 1 := by rw [← hW1]; exact Array.size_push _
  obtain ⟨W2, hW2⟩ : ∃ W, W1.alloc (.cells (vdC k wo n (.slice a' l cap')) 39) = W := ⟨_, rfl⟩
  have g2 : W2.heap[w.heap.size + 1]? = some (.cells (vdC k wo n (.slice a' l cap')) 39 (0, 0)) := by rw [← hW2, ← z1]; exact heap_alloc_new W1 _
  have b2 : Below w.heap.size w W2 := by rw [← hW2]; exact b1.alloc (by omega) _
  have z2 : W2.heap.size = w.heap.size + 2 := by
    have h : W2.heap.size = W1.heap.size + 1 := by rw [← hW2]; exact Array.size_push _
    omega
  have m2 : W2.heap[w.heap.size]? = some (.cells (vdC k wo n (.slice a l cap)) 39 (0, 0)) := by rw [← hW2]; exact (Below.heap_alloc _ _ _ (by omega)).trans g1
  unfold vdC at g1 g2 m2 hW1 hW2 ⊢
  have p0 := cell_of m2 0
  have p1 := cell_of m2 1
  have p2 := cell_of m2 2
  have p3 := cell_of m2 3
  have p4 := cell_of m2 4
  have q0 := cell_of g2 0
  have q1 := cell_of g2 1
  have q2 := cell_of g2 2
  have q3 := cell_of g2 3
  have q4 := cell_of g2 4
  dsimp at p0 p1 p2 p3 p4 q0 q1 q2 q3 q4
  have hI := HI.out W2 b2
  have HB2 : Hid (Below w.heap.size w W2) := b2
  have hk1 : (k == k) = true := by simp
  have hk2 : (wo == wo) = true := by simp
  have hk3 : (n == n) = true := by simp
  clear g1 g2 m2 b1 b2 hl
  go_enter Tryz.func14, Tryz.ntmps14
  go_wp2_with (go_at_call 18; refine hI.mono ?_; rintro e w3 ⟨rfl, hb3⟩; have HB3 : Hid (Below W2.heap.size W2 w3) := hb3; clear hb3)
  go_ret
  exact ⟨rfl, HB2.out.trans (HB3.out.mono (by omega))⟩

end Go.Proofs.YtjgghimjnbjlbaaGreatDoor

namespace Go.Proofs.YtjgghimjnbjlbaaGreatDoor
open Go Go.RowKit Go.Shelf Go.Lib
def kmA : Md.Mo := { vars := [⟨⟨#[120]⟩, 0, 2⟩, ⟨⟨#[121]⟩, 0, 2⟩], cons := [⟨3, 0, [], 0, 0, 0, 0, [0, 1], [], []⟩], has := false, goal := [] }
def kmB : Md.Mo := { kmA with has := true, goal := [(-1, 0)] }
set_option maxRecDepth 100000 in
theorem km_small : (Md.product kmA 100000).2 = true := by kernel_rfl
set_option maxRecDepth 100000 in
theorem km_smallB : (Md.product kmB 100000).2 = true := by kernel_rfl
set_option maxRecDepth 100000 in
theorem km_len : (allSols kmA).length = 6 := by kernel_rfl
set_option maxRecDepth 100000 in
theorem km_lenB : (allSols kmB).length = 6 := by kernel_rfl
set_option maxRecDepth 100000 in
theorem km_ansA : ansD kmA = (3, 0, [0, 1]) := by kernel_rfl
set_option maxRecDepth 100000 in
theorem km_ansB : ansD kmB = (4, -2, [2, 0]) := by kernel_rfl
def ktA : ByteArray := ⟨#[42, 32, 97, 10, 112, 111, 108, 32, 49, 10, 114, 117, 112, 32, 62, 61, 32, 48, 32, 59, 10, 100, 101, 108, 32, 105, 100, 32, 51, 32, 52, 10]⟩
def ktB : ByteArray := ⟨#[42, 32, 97, 10, 110, 111, 116, 104, 105, 110, 103, 10]⟩
set_option maxRecDepth 100000 in
theorem kt_good : (lns ktA.data.toList []).all (fun x => er x == 0) = true := by kernel_rfl
set_option maxRecDepth 100000 in
theorem kt_bad : (lns ktB.data.toList []).all (fun x => er x == 0) = false := by kernel_rfl
set_option maxRecDepth 100000 in
theorem kt_wt : wtS (lns ktA.data.toList []) 32 = #[.int .i64 4, .int .i64 32, .int .i64 2, .int .i64 2, .int .i64 2, .int .i64 10, .int .i64 0, .int .i64 0, .int .i64 0, .int .i64 1, .int .i64 1, .int .i64 0, .int .i64 1, .int .i64 1, .int .i64 0, .int .i64 0, .int .i64 0, .int .i64 0, .int .i64 0] := by kernel_rfl
end Go.Proofs.YtjgghimjnbjlbaaGreatDoor

namespace Go.Proofs.YtjgghimjnbjlbaaGreatDoor
open Go Go.RowKit Go.Shelf Go.Lib
attribute [local go_sem] Oper.semAt_some

/-- What lies in new blocks. -/
def Keeps (w : World) (L : List (Nat × Obj)) (W : World) : Prop := Below w.heap.size w W ∧ ∀ p ∈ L, W.heap[p.1]? = some p.2
theorem Keeps.step {w W W' : World} {L : List (Nat × Obj)} (h : Keeps w L W) (hb : Below W.heap.size W W') : Keeps w L W' :=
  ⟨bl_next h.1 hb, fun p hp => (hb.block _ (Array.getElem?_eq_some_iff.1 (h.2 p hp)).1).trans (h.2 p hp)⟩
theorem Keeps.alloc {w W : World} {L : List (Nat × Obj)} (h : Keeps w L W) (o : Obj) : Keeps w ((W.heap.size, o) :: L) (W.alloc o) := by
  have hb : Below W.heap.size W (W.alloc o) := (Below.refl _ _).alloc (Nat.le_refl _) _
  have h2 := h.step hb
  refine ⟨h2.1, fun p hp => ?_⟩
  rcases List.mem_cons.1 hp with rfl | hp
  · exact heap_alloc_new W o
  · exact h2.2 p hp
theorem Keeps.get {w W : World} {L : List (Nat × Obj)} (h : Keeps w L W) (i : Nat) {p : Nat × Obj} (hi : L[i]? = some p) : W.heap[p.1]? = some p.2 := h.2 p (List.mem_of_getElem? hi)
theorem at_vars {W : World} {g : Nat} (h : W.heap[g]? = some (.cells #[.string ⟨#[120]⟩, .int .i64 0, .int .i64 2, .string ⟨#[121]⟩, .int .i64 0, .int .i64 2] 49 (0, 0))) : VarsAt W (.slice (some ⟨g, 0, none⟩) 2 2) kmA.vars := by
  refine ⟨_, 2, rfl, by decide, ?_, fun _ => ⟨g, 0, rfl, (Array.getElem?_eq_some_iff.1 h).1, ?_⟩⟩
  · intro x hx
    simp only [kmA, List.mem_cons, List.not_mem_nil, or_false] at hx
    rcases hx with rfl | rfl <;> decide
  · intro j hj
    have hj : j < 2 := hj
    rcases j with _ | _ | j
    · exact ⟨cell_of h 0, cell_of h 1, cell_of h 2⟩
    · exact ⟨cell_of h 3, cell_of h 4, cell_of h 5⟩
    · omega
theorem at_con {W : World} {g x : Nat} (h : W.heap[g]? = some (.cells #[.int .i64 3, .int .i64 0, .slice none 0 0, .int .i64 0, .int .i64 0, .int .i64 0, .int .i64 0, .slice (some ⟨x, 0, none⟩) 2 2, .slice none 0 0, .slice none 0 0] 51 (0, 0))) (hx : W.heap[x]? = some (.cells #[.int .i64 0, .int .i64 1] 3 (0, 0))) : ConsAt W (.slice (some ⟨g, 0, none⟩) 1 1) kmA.cons := by
  refine ⟨_, 1, rfl, by decide, fun _ => ⟨g, 0, rfl, (Array.getElem?_eq_some_iff.1 h).1, ?_⟩⟩
  intro j hj
  have hj : j < 1 := hj
  obtain rfl : j = 0 := by omega
  refine ⟨.slice none 0 0, .slice (some ⟨x, 0, none⟩) 2 2, .slice none 0 0, .slice none 0 0, ⟨?_, ?_, ?_, ?_, ?_⟩, cell_of h 0, cell_of h 1, cell_of h 2, cell_of h 3, cell_of h 4, cell_of h 5, cell_of h 6, cell_of h 7, cell_of h 8, cell_of h 9⟩
  · exact ⟨none, 0, rfl, Nat.zero_le _, fun h => absurd h (Nat.lt_irrefl 0)⟩
  · refine ⟨_, 2, rfl, (show (2 : Nat) ≤ maxLen by decide), fun _ => ⟨x, 0, rfl, (Array.getElem?_eq_some_iff.1 hx).1, ?_⟩⟩
    intro j hj
    have hj : j < 2 := hj
    rcases j with _ | _ | j
    · exact cell_of hx 0
    · exact cell_of hx 1
    · omega
  · rintro a n cp ⟨⟩
    decide
  · exact ⟨none, 0, rfl, Nat.zero_le _, fun h => absurd h (Nat.lt_irrefl 0)⟩
  · exact ⟨none, 0, rfl, Nat.zero_le _, fun h => absurd h (Nat.lt_irrefl 0)⟩
theorem at_goal {W : World} {g : Nat} (h : W.heap[g]? = some (.cells #[.int .i64 (-1), .int .i64 0] 67 (0, 0))) : TermsAt W (.slice (some ⟨g, 0, none⟩) 1 1) kmB.goal := by
  refine ⟨_, 1, rfl, by decide, fun _ => ⟨g, 0, rfl, (Array.getElem?_eq_some_iff.1 h).1, ?_⟩⟩
  intro j hj
  have hj : j < 1 := hj
  obtain rfl : j = 0 := by omega
  exact ⟨cell_of h 0, cell_of h 1⟩
theorem at_ints {W : World} {g : Nat} (a b : Int) (h : W.heap[g]? = some (.cells #[.int .i64 a, .int .i64 b] 3 (0, 0))) : MInts W (.slice (some ⟨g, 0, none⟩) 2 2) [a, b] := by
  refine ⟨_, 2, rfl, (show (2 : Nat) ≤ maxLen by decide), fun _ => ⟨g, 0, rfl, (Array.getElem?_eq_some_iff.1 h).1, ?_⟩⟩
  intro j hj
  have hj : j < 2 := hj
  rcases j with _ | _ | j
  · exact cell_of h 0
  · exact cell_of h 1
  · omega
theorem nil_terms (W : World) : TermsAt W (.slice none 0 0) [] := ⟨none, 0, rfl, Nat.zero_le _, fun h => absurd h (Nat.lt_irrefl 0)⟩
theorem nil_ints (W : World) : MInts W (.slice none 0 0) [] := ⟨none, 0, rfl, Nat.zero_le _, fun h => absurd h (Nat.lt_irrefl 0)⟩
theorem cap22 (g : Nat) : ∀ a n cp, (Value.slice (some ⟨g, 0, none⟩) 2 2) = .slice a n cp → n ≤ cp := by rintro a n cp ⟨⟩; exact Nat.le_refl _

theorem count_km (W : World) (g c x : Nat) (h1 : W.heap[g]? = some (.cells #[.string ⟨#[120]⟩, .int .i64 0, .int .i64 2, .string ⟨#[121]⟩, .int .i64 0, .int .i64 2] 49 (0, 0))) (h2 : W.heap[c]? = some (.cells #[.int .i64 3, .int .i64 0, .slice none 0 0, .int .i64 0, .int .i64 0, .int .i64 0, .int .i64 0, .slice (some ⟨x, 0, none⟩) 2 2, .slice none 0 0, .slice none 0 0] 51 (0, 0))) (h3 : W.heap[x]? = some (.cells #[.int .i64 0, .int .i64 1] 3 (0, 0))) :
    Calls Tryz.prog 11 #[.agg #[.slice (some ⟨g, 0, none⟩) 2 2, .slice (some ⟨c, 0, none⟩) 1 1, .bool false, .slice none 0 0]] W (fun e w' => e = .returned (.tuple #[.int .i64 6, .bool true]) ∧ Below W.heap.size W w') ∧
    Calls Tryz.prog 12 #[.agg #[.slice (some ⟨g, 0, none⟩) 2 2, .slice (some ⟨c, 0, none⟩) 1 1, .bool false, .slice none 0 0]] W (fun e w' => ∃ a cp B, e = .returned (.tuple #[.agg #[.int .i64 3, .int .i64 0, .int .i64 0, .int .i64 0, .slice a 2 cp], .bool true]) ∧ Below W.heap.size W w' ∧ w'.ownsRow B 3 1 (.slice a 2 cp) 2 [.int .i64 0, .int .i64 1]) := by
  have hM : MoAt W kmA (.slice (some ⟨g, 0, none⟩) 2 2) (.slice (some ⟨c, 0, none⟩) 1 1) (.slice none 0 0) := ⟨at_vars h1, cap22 g, at_con h2 h3, nil_terms W⟩
  refine ⟨?_, ?_⟩
  · have := au_count kmA _ _ _ W hM
    rw [km_len, km_small] at this
    exact this
  · refine Calls.mono (au_answer kmA _ _ _ W hM) ?_
    rintro e w' ⟨hb, ⟨h, _⟩ | ⟨_, v, B, he, _, how⟩⟩
    · rw [km_small] at h; cases h
    · rw [km_ansA] at he how
      obtain ⟨a, cp, rfl⟩ := own_sl how
      exact ⟨a, cp, B, he, hb, how⟩
theorem goal_km (W : World) (g c x t : Nat) (h1 : W.heap[g]? = some (.cells #[.string ⟨#[120]⟩, .int .i64 0, .int .i64 2, .string ⟨#[121]⟩, .int .i64 0, .int .i64 2] 49 (0, 0))) (h2 : W.heap[c]? = some (.cells #[.int .i64 3, .int .i64 0, .slice none 0 0, .int .i64 0, .int .i64 0, .int .i64 0, .int .i64 0, .slice (some ⟨x, 0, none⟩) 2 2, .slice none 0 0, .slice none 0 0] 51 (0, 0))) (h3 : W.heap[x]? = some (.cells #[.int .i64 0, .int .i64 1] 3 (0, 0))) (h4 : W.heap[t]? = some (.cells #[.int .i64 (-1), .int .i64 0] 67 (0, 0))) :
    Calls Tryz.prog 13 #[.agg #[.slice (some ⟨g, 0, none⟩) 2 2, .slice (some ⟨c, 0, none⟩) 1 1, .bool true, .slice (some ⟨t, 0, none⟩) 1 1]] W (fun e w' => e = .returned (.tuple #[.agg #[.int .i64 6, .int .i64 0, .int .i64 0, .int .i64 6, .slice none 0 0], .bool true]) ∧ Below W.heap.size W w') ∧
    Calls Tryz.prog 12 #[.agg #[.slice (some ⟨g, 0, none⟩) 2 2, .slice (some ⟨c, 0, none⟩) 1 1, .bool true, .slice (some ⟨t, 0, none⟩) 1 1]] W (fun e w' => ∃ a cp B, e = .returned (.tuple #[.agg #[.int .i64 4, .int .i64 0, .int .i64 (-2), .int .i64 0, .slice a 2 cp], .bool true]) ∧ Below W.heap.size W w' ∧ w'.ownsRow B 3 1 (.slice a 2 cp) 2 [.int .i64 2, .int .i64 0]) := by
  have hM : MoAt W kmB (.slice (some ⟨g, 0, none⟩) 2 2) (.slice (some ⟨c, 0, none⟩) 1 1) (.slice (some ⟨t, 0, none⟩) 1 1) := ⟨at_vars h1, cap22 g, at_con h2 h3, at_goal h4⟩
  refine ⟨?_, ?_⟩
  · refine Calls.mono (au_all kmB _ _ _ W hM) ?_
    rintro e w' ⟨hb, ⟨h, _⟩ | ⟨_, he⟩⟩
    · rw [km_smallB] at h; cases h
    · rw [km_lenB] at he
      exact ⟨he, hb⟩
  · refine Calls.mono (au_answer kmB _ _ _ W hM) ?_
    rintro e w' ⟨hb, ⟨h, _⟩ | ⟨_, v, B, he, _, how⟩⟩
    · rw [km_smallB] at h; cases h
    · rw [km_ansB] at he how
      obtain ⟨a, cp, rfl⟩ := own_sl how
      exact ⟨a, cp, B, he, hb, how⟩
theorem weigh_good (W : World) (hg : Gl W) : Calls Tryz.prog 21 #[.string ktA] W fun e w' => e = .returned (.tuple #[.agg #[.int .i64 4, .int .i64 32, .int .i64 2, .int .i64 2, .int .i64 2, .int .i64 10, .int .i64 0, .int .i64 0, .int .i64 0, .int .i64 1, .int .i64 1, .int .i64 0, .int .i64 1, .int .i64 1, .int .i64 0, .int .i64 0, .int .i64 0, .int .i64 0, .int .i64 0], .nilIface]) ∧ Below W.heap.size W w' := by
  refine Calls.mono (weigh_any ktA W (by decide) hg) ?_
  rintro e w' ⟨hb, ⟨_, he⟩ | ⟨pre, x, post, f, hL, _, hx, _⟩⟩
  · refine ⟨?_, hb⟩
    have e32 : (ktA.size : Int) = 32 := by decide
    rw [e32, kt_wt] at he
    exact he
  · have := kt_good
    rw [hL] at this
    simp [hx] at this
theorem weigh_bad (W : World) (hg : Gl W) : Calls Tryz.prog 21 #[.string ktB] W fun e w' => (∃ f, e = .returned (.tuple #[.agg zW, .iface 95 (.pointer (some ⟨f, 0, none⟩))])) ∧ Below W.heap.size W w' := by
  refine Calls.mono (weigh_any ktB W (by decide) hg) ?_
  rintro e w' ⟨hb, ⟨h, _⟩ | ⟨pre, x, post, f, hL, _, hx, he, _⟩⟩
  · have h2 := kt_bad
    have : (lns ktB.data.toList []).all (fun x => er x == 0) = true := List.all_eq_true.2 fun x hx => by simp [h x hx]
    rw [this] at h2
    cases h2
  · exact ⟨⟨f, he⟩, hb⟩
end Go.Proofs.YtjgghimjnbjlbaaGreatDoor

namespace Go.Proofs.YtjgghimjnbjlbaaGreatDoor
open Go Go.RowKit Go.Shelf Go.Lib
attribute [local go_sem] Oper.semAt_some

theorem own_step {W W' : World} {B : Nat} {v : Value} {n : Nat} {xs : List Value} (h : W.ownsRow B 3 1 v n xs) (hb : Below W.heap.size W W') : W'.ownsRow B 3 1 v n xs := own_keep h fun g hg => hb.block g (own_ge h hg).2
theorem own_apart26 {W W' : World} {B p : Nat} {v : Value} {n : Nat} {xs : List Value} {c : Array Value} (h : W.ownsRow B 3 1 v n xs) (hp : W.heap[p]? = some (.cells c 26 (0, 0))) (hk : ∀ k, k ≠ p → W'.heap[k]? = W.heap[k]?) : W'.ownsRow B 3 1 v n xs := by
  refine own_keep h fun g hg => hk g ?_
  rintro rfl
  rcases h.2 with ⟨rfl, _⟩ | ⟨g', cap, cur, rfl, _, hgc, _⟩
  · cases hg
  · have : g' = g := by simpa [Value.ownBlock] using hg
    subst this
    rw [hp] at hgc
    cases hgc

def wtK : Array Value := #[.int .i64 4, .int .i64 32, .int .i64 2, .int .i64 2, .int .i64 2, .int .i64 10, .int .i64 0, .int .i64 0, .int .i64 0, .int .i64 1, .int .i64 1, .int .i64 0, .int .i64 1, .int .i64 1, .int .i64 0, .int .i64 0, .int .i64 0, .int .i64 0, .int .i64 0]
theorem weigh_goodK (W : World) (hg : Gl W) : Calls Tryz.prog 21 #[.string ktA] W fun e w' => e = .returned (.tuple #[.agg wtK, .nilIface]) ∧ Below W.heap.size W w' := weigh_good W hg
theorem row_step {w W : World} {L : List (Nat × Obj)} (h : Keeps w L W) (cs : Array Value) : Below W.heap.size W ((W.alloc (.cells zW 55)).setRow W.heap.size cs) ∧ Keeps w ((W.heap.size, .cells cs 55 (0, 0)) :: L) ((W.alloc (.cells zW 55)).setRow W.heap.size cs) := by
  have hz : (W.alloc (.cells zW 55)).heap[W.heap.size]? = some (.cells zW 55 (0, 0)) := heap_alloc_new W _
  have hb : Below W.heap.size W ((W.alloc (.cells zW 55)).setRow W.heap.size cs) := ((Below.refl _ _).alloc (Nat.le_refl _) _).trans ⟨rfl, rfl, rfl, by simp [World.setRow], fun k hk => setRow_other _ _ k _ (by omega)⟩
  have h2 := h.step hb
  refine ⟨hb, h2.1, fun p hp => ?_⟩
  rcases List.mem_cons.1 hp with rfl | hp
  · exact setRow_heap _ W.heap.size _ cs _ _ hz
  · exact h2.2 p hp

set_option maxRecDepth 20000 in
set_option maxHeartbeats 8000000 in
theorem known_any (w : World) (hg : Gl w) : Calls Tryz.prog 8 #[] w fun e w' => e = .returned (.bool true) ∧ Below w.heap.size w w' := by
  have HG : Hid (∀ W, Below w.heap.size w W → Gl W) := fun W hb => hg.next hb
  clear hg
  go_enter Tryz.func8, Tryz.ntmps8
  go_wp2_with fail
  have K0 : Keeps w [] w := ⟨Below.refl _ _, fun p hp => by cases hp⟩
  obtain ⟨V1, hV1⟩ : ∃ V, w.alloc (.cells #[.string ⟨#[120]⟩, .int .i64 0, .int .i64 2, .string ⟨#[121]⟩, .int .i64 0, .int .i64 2] 49) = V := ⟨_, rfl⟩
  have zV1 : V1.heap.size = w.heap.size + 1 := by
    have h : V1.heap.size = w.heap.size + 1 := by rw [← hV1]; exact Array.size_push _
    omega
  obtain ⟨V2, hV2⟩ : ∃ V, V1.alloc (.cells #[.int .i64 0, .int .i64 1] 3) = V := ⟨_, rfl⟩
  have zV2 : V2.heap.size = w.heap.size + 1 + 1 := by
    have h : V2.heap.size = V1.heap.size + 1 := by rw [← hV2]; exact Array.size_push _
    omega
  obtain ⟨V3, hV3⟩ : ∃ V, V2.alloc (.cells #[.int .i64 3, .int .i64 0, .slice none 0 0, .int .i64 0, .int .i64 0, .int .i64 0, .int .i64 0, .slice (some ⟨w.heap.size + 1, 0, none⟩) 2 2, .slice none 0 0, .slice none 0 0] 51) = V := ⟨_, rfl⟩
  have zV3 : V3.heap.size = w.heap.size + 1 + 1 + 1 := by
    have h : V3.heap.size = V2.heap.size + 1 := by rw [← hV3]; exact Array.size_push _
    omega
  obtain ⟨V4, hV4⟩ : ∃ V, V3.alloc (.cells #[.slice (some ⟨w.heap.size, 0, none⟩) 2 2, .slice (some ⟨w.heap.size + 1 + 1, 0, none⟩) 1 1, .bool false, .slice none 0 0] 26) = V := ⟨_, rfl⟩
  have zV4 : V4.heap.size = w.heap.size + 1 + 1 + 1 + 1 := by
    have h : V4.heap.size = V3.heap.size + 1 := by rw [← hV4]; exact Array.size_push _
    omega
  have K4 : Hid (Keeps w [(w.heap.size + 1 + 1 + 1, Obj.cells #[.slice (some ⟨w.heap.size, 0, none⟩) 2 2, .slice (some ⟨w.heap.size + 1 + 1, 0, none⟩) 1 1, .bool false, .slice none 0 0] 26 (0, 0)), (w.heap.size + 1 + 1, Obj.cells #[.int .i64 3, .int .i64 0, .slice none 0 0, .int .i64 0, .int .i64 0, .int .i64 0, .int .i64 0, .slice (some ⟨w.heap.size + 1, 0, none⟩) 2 2, .slice none 0 0, .slice none 0 0] 51 (0, 0)), (w.heap.size + 1, Obj.cells #[.int .i64 0, .int .i64 1] 3 (0, 0)), (w.heap.size, Obj.cells #[.string ⟨#[120]⟩, .int .i64 0, .int .i64 2, .string ⟨#[121]⟩, .int .i64 0, .int .i64 2] 49 (0, 0))] V4) := by
    have k := (((K0.alloc (.cells #[.string ⟨#[120]⟩, .int .i64 0, .int .i64 2, .string ⟨#[121]⟩, .int .i64 0, .int .i64 2] 49)).alloc (.cells #[.int .i64 0, .int .i64 1] 3)).alloc (.cells #[.int .i64 3, .int .i64 0, .slice none 0 0, .int .i64 0, .int .i64 0, .int .i64 0, .int .i64 0, .slice (some ⟨w.heap.size + 1, 0, none⟩) 2 2, .slice none 0 0, .slice none 0 0] 51)).alloc (.cells #[.slice (some ⟨w.heap.size, 0, none⟩) 2 2, .slice (some ⟨w.heap.size + 1 + 1, 0, none⟩) 1 1, .bool false, .slice none 0 0] 26)
    rw [hV1, hV2, hV3, hV4, zV1, zV2, zV3] at k
    exact k
  rw [hV1, hV2, hV3, hV4]
  clear K0 zV1 zV2 zV3 zV4
  have C1 := (count_km V4 _ _ _ (K4.out.get 3 rfl) (K4.out.get 1 rfl) (K4.out.get 2 rfl)).1
  refine calls_at C1 (by with_reducible rfl) (by with_reducible rfl) ?_
  rintro e u1 ⟨rfl, hb1⟩
  have K5 : Hid (Keeps w [(w.heap.size + 1 + 1 + 1, Obj.cells #[.slice (some ⟨w.heap.size, 0, none⟩) 2 2, .slice (some ⟨w.heap.size + 1 + 1, 0, none⟩) 1 1, .bool false, .slice none 0 0] 26 (0, 0)), (w.heap.size + 1 + 1, Obj.cells #[.int .i64 3, .int .i64 0, .slice none 0 0, .int .i64 0, .int .i64 0, .int .i64 0, .int .i64 0, .slice (some ⟨w.heap.size + 1, 0, none⟩) 2 2, .slice none 0 0, .slice none 0 0] 51 (0, 0)), (w.heap.size + 1, Obj.cells #[.int .i64 0, .int .i64 1] 3 (0, 0)), (w.heap.size, Obj.cells #[.string ⟨#[120]⟩, .int .i64 0, .int .i64 2, .string ⟨#[121]⟩, .int .i64 0, .int .i64 2] 49 (0, 0))] u1) := K4.out.step hb1
  clear C1 hb1 K4 hV1 hV2 hV3 hV4
  have C2 := (count_km u1 _ _ _ (K5.out.get 3 rfl) (K5.out.get 1 rfl) (K5.out.get 2 rfl)).2
  have b0 := cell_of (K5.out.get 0 rfl) 0
  have b1 := cell_of (K5.out.get 0 rfl) 1
  have b2 := cell_of (K5.out.get 0 rfl) 2
  have b3 := cell_of (K5.out.get 0 rfl) 3
  dsimp at b0 b1 b2 b3
  go_wp2_with fail
  refine calls_at C2 (by with_reducible rfl) (by with_reducible rfl) ?_
  rintro e u2 ⟨a1, c1, B1, rfl, hb2, ho⟩
  have HO1 : Hid (u2.ownsRow B1 3 1 (.slice a1 2 c1) 2 [.int .i64 0, .int .i64 1]) := ho
  have K6 : Hid (Keeps w [(w.heap.size + 1 + 1 + 1, Obj.cells #[.slice (some ⟨w.heap.size, 0, none⟩) 2 2, .slice (some ⟨w.heap.size + 1 + 1, 0, none⟩) 1 1, .bool false, .slice none 0 0] 26 (0, 0)), (w.heap.size + 1 + 1, Obj.cells #[.int .i64 3, .int .i64 0, .slice none 0 0, .int .i64 0, .int .i64 0, .int .i64 0, .int .i64 0, .slice (some ⟨w.heap.size + 1, 0, none⟩) 2 2, .slice none 0 0, .slice none 0 0] 51 (0, 0)), (w.heap.size + 1, Obj.cells #[.int .i64 0, .int .i64 1] 3 (0, 0)), (w.heap.size, Obj.cells #[.string ⟨#[120]⟩, .int .i64 0, .int .i64 2, .string ⟨#[121]⟩, .int .i64 0, .int .i64 2] 49 (0, 0))] u2) := K5.out.step hb2
  clear C2 hb2 ho K5
  clear b0 b1 b2 b3
  obtain ⟨V5, hV5⟩ : ∃ V, u2.alloc (.cells #[.int .i64 3, .int .i64 0, .int .i64 0, .int .i64 0, .slice a1 2 c1] 39) = V := ⟨_, rfl⟩
  have zV5 : V5.heap.size = u2.heap.size + 1 := by
    have h : V5.heap.size = u2.heap.size + 1 := by rw [← hV5]; exact Array.size_push _
    omega
  obtain ⟨V6, hV6⟩ : ∃ V, V5.alloc (.cells #[.int .i64 (-1), .int .i64 0] 67) = V := ⟨_, rfl⟩
  have zV6 : V6.heap.size = u2.heap.size + 2 := by
    have h : V6.heap.size = V5.heap.size + 1 := by rw [← hV6]; exact Array.size_push _
    omega
  have K8 : Hid (Keeps w [(u2.heap.size + 1, Obj.cells #[.int .i64 (-1), .int .i64 0] 67 (0, 0)), (u2.heap.size, Obj.cells #[.int .i64 3, .int .i64 0, .int .i64 0, .int .i64 0, .slice a1 2 c1] 39 (0, 0)), (w.heap.size + 1 + 1 + 1, Obj.cells #[.slice (some ⟨w.heap.size, 0, none⟩) 2 2, .slice (some ⟨w.heap.size + 1 + 1, 0, none⟩) 1 1, .bool false, .slice none 0 0] 26 (0, 0)), (w.heap.size + 1 + 1, Obj.cells #[.int .i64 3, .int .i64 0, .slice none 0 0, .int .i64 0, .int .i64 0, .int .i64 0, .int .i64 0, .slice (some ⟨w.heap.size + 1, 0, none⟩) 2 2, .slice none 0 0, .slice none 0 0] 51 (0, 0)), (w.heap.size + 1, Obj.cells #[.int .i64 0, .int .i64 1] 3 (0, 0)), (w.heap.size, Obj.cells #[.string ⟨#[120]⟩, .int .i64 0, .int .i64 2, .string ⟨#[121]⟩, .int .i64 0, .int .i64 2] 49 (0, 0))] V6) := by
    have k := (K6.out.alloc (.cells #[.int .i64 3, .int .i64 0, .int .i64 0, .int .i64 0, .slice a1 2 c1] 39)).alloc (.cells #[.int .i64 (-1), .int .i64 0] 67)
    rw [hV5, hV6, zV5] at k
    exact k
  have HO2 : Hid (V6.ownsRow B1 3 1 (.slice a1 2 c1) 2 [.int .i64 0, .int .i64 1]) := by
    show World.ownsRow _ _ _ _ _ _ _
    rw [← hV6, ← hV5]
    exact own_step (own_step HO1.out ((Below.refl _ _).alloc (Nat.le_refl _) _)) ((Below.refl _ _).alloc (Nat.le_refl _) _)
  have b0 := cell_of (K8.out.get 2 rfl) 0
  have b1 := cell_of (K8.out.get 2 rfl) 1
  have b2 := cell_of (K8.out.get 2 rfl) 2
  have b3 := cell_of (K8.out.get 2 rfl) 3
  dsimp at b0 b1 b2 b3
  have f2 := frozen_of (K8.out.get 2 rfl) 2
  have f3 := frozen_of (K8.out.get 2 rfl) 3
  obtain ⟨V7, hV7⟩ : ∃ V, (V6.setCell ⟨w.heap.size + 1 + 1 + 1, 2, none⟩ (.bool true)).setCell ⟨w.heap.size + 1 + 1 + 1, 3, none⟩ (.slice (some ⟨u2.heap.size + 1, 0, none⟩) 1 1) = V := ⟨_, rfl⟩
  have hk7 : ∀ k, k ≠ w.heap.size + 1 + 1 + 1 → V7.heap[k]? = V6.heap[k]? := fun k hk => by
    rw [← hV7, heap_setCell_other _ _ _ _ (by exact hk), heap_setCell_other _ _ _ _ (by exact hk)]
  have K9 : Hid (Keeps w [(w.heap.size + 1 + 1 + 1, Obj.cells #[.slice (some ⟨w.heap.size, 0, none⟩) 2 2, .slice (some ⟨w.heap.size + 1 + 1, 0, none⟩) 1 1, .bool true, .slice (some ⟨u2.heap.size + 1, 0, none⟩) 1 1] 26 (0, 0)), (u2.heap.size + 1, Obj.cells #[.int .i64 (-1), .int .i64 0] 67 (0, 0)), (u2.heap.size, Obj.cells #[.int .i64 3, .int .i64 0, .int .i64 0, .int .i64 0, .slice a1 2 c1] 39 (0, 0)), (w.heap.size + 1 + 1, Obj.cells #[.int .i64 3, .int .i64 0, .slice none 0 0, .int .i64 0, .int .i64 0, .int .i64 0, .int .i64 0, .slice (some ⟨w.heap.size + 1, 0, none⟩) 2 2, .slice none 0 0, .slice none 0 0] 51 (0, 0)), (w.heap.size + 1, Obj.cells #[.int .i64 0, .int .i64 1] 3 (0, 0)), (w.heap.size, Obj.cells #[.string ⟨#[120]⟩, .int .i64 0, .int .i64 2, .string ⟨#[121]⟩, .int .i64 0, .int .i64 2] 49 (0, 0))] V7) := by
    have hbx := K8.out.get 2 rfl
    have hsz2 : w.heap.size + 4 ≤ u2.heap.size := by
      have := (Array.getElem?_eq_some_iff.1 (K6.out.get 0 rfl)).1
      dsimp at this
      omega
    refine ⟨?_, ?_⟩
    · rw [← hV7]
      exact (K8.out.1.setCell (show w.heap.size ≤ w.heap.size + 1 + 1 + 1 by omega) _).setCell (show w.heap.size ≤ w.heap.size + 1 + 1 + 1 by omega) _
    · intro p hp
      simp only [List.mem_cons, List.not_mem_nil, or_false] at hp
      rcases hp with rfl | rfl | rfl | rfl | rfl | rfl
      · have := set_of (set_of hbx 2 (.bool true)) 3 (.slice (some ⟨u2.heap.size + 1, 0, none⟩) 1 1)
        show V7.heap[w.heap.size + 1 + 1 + 1]? = _
        rw [← hV7]
        simpa using this
      · exact (hk7 _ (show u2.heap.size + 1 ≠ w.heap.size + 1 + 1 + 1 by omega)).trans (K8.out.get 0 rfl)
      · exact (hk7 _ (show u2.heap.size ≠ w.heap.size + 1 + 1 + 1 by omega)).trans (K8.out.get 1 rfl)
      · exact (hk7 _ (show w.heap.size + 1 + 1 ≠ w.heap.size + 1 + 1 + 1 by omega)).trans (K8.out.get 3 rfl)
      · exact (hk7 _ (show w.heap.size + 1 ≠ w.heap.size + 1 + 1 + 1 by omega)).trans (K8.out.get 4 rfl)
      · exact (hk7 _ (show w.heap.size ≠ w.heap.size + 1 + 1 + 1 by omega)).trans (K8.out.get 5 rfl)
  have HO3 : Hid (V7.ownsRow B1 3 1 (.slice a1 2 c1) 2 [.int .i64 0, .int .i64 1]) := own_apart26 HO2.out (K8.out.get 2 rfl) hk7
  have C3 := (goal_km V7 _ _ _ _ (K9.out.get 5 rfl) (K9.out.get 3 rfl) (K9.out.get 4 rfl) (K9.out.get 1 rfl)).2
  have g0 := cell_of (K9.out.get 0 rfl) 0
  have g1 := cell_of (K9.out.get 0 rfl) 1
  have g2 := cell_of (K9.out.get 0 rfl) 2
  have g3 := cell_of (K9.out.get 0 rfl) 3
  dsimp at g0 g1 g2 g3
  clear hk7 K6 HO1 HO2
  go_wp2_with fail
  refine calls_at C3 (by with_reducible rfl) (by with_reducible rfl) ?_
  rintro e u3 ⟨a2, c2, B2, rfl, hb3, ho⟩
  have HO4 : Hid (u3.ownsRow B1 3 1 (.slice a1 2 c1) 2 [.int .i64 0, .int .i64 1]) := own_step HO3.out hb3
  have HP1 : Hid (u3.ownsRow B2 3 1 (.slice a2 2 c2) 2 [.int .i64 2, .int .i64 0]) := ho
  have K10 : Hid (Keeps w [(w.heap.size + 1 + 1 + 1, Obj.cells #[.slice (some ⟨w.heap.size, 0, none⟩) 2 2, .slice (some ⟨w.heap.size + 1 + 1, 0, none⟩) 1 1, .bool true, .slice (some ⟨u2.heap.size + 1, 0, none⟩) 1 1] 26 (0, 0)), (u2.heap.size + 1, Obj.cells #[.int .i64 (-1), .int .i64 0] 67 (0, 0)), (u2.heap.size, Obj.cells #[.int .i64 3, .int .i64 0, .int .i64 0, .int .i64 0, .slice a1 2 c1] 39 (0, 0)), (w.heap.size + 1 + 1, Obj.cells #[.int .i64 3, .int .i64 0, .slice none 0 0, .int .i64 0, .int .i64 0, .int .i64 0, .int .i64 0, .slice (some ⟨w.heap.size + 1, 0, none⟩) 2 2, .slice none 0 0, .slice none 0 0] 51 (0, 0)), (w.heap.size + 1, Obj.cells #[.int .i64 0, .int .i64 1] 3 (0, 0)), (w.heap.size, Obj.cells #[.string ⟨#[120]⟩, .int .i64 0, .int .i64 2, .string ⟨#[121]⟩, .int .i64 0, .int .i64 2] 49 (0, 0))] u3) := K9.out.step hb3
  clear C3 hb3 ho K8 K9 hV5 hV6 hV7 HO3 f2 f3
  clear b0 b1 b2 b3
  clear g0 g1 g2 g3
  obtain ⟨V8, hV8⟩ : ∃ V, u3.alloc (.cells #[.int .i64 4, .int .i64 0, .int .i64 (-2), .int .i64 0, .slice a2 2 c2] 39) = V := ⟨_, rfl⟩
  have zV8 : V8.heap.size = u3.heap.size + 1 := by
    have h : V8.heap.size = u3.heap.size + 1 := by rw [← hV8]; exact Array.size_push _
    omega
  have K11 : Hid (Keeps w [(u3.heap.size, Obj.cells #[.int .i64 4, .int .i64 0, .int .i64 (-2), .int .i64 0, .slice a2 2 c2] 39 (0, 0)), (w.heap.size + 1 + 1 + 1, Obj.cells #[.slice (some ⟨w.heap.size, 0, none⟩) 2 2, .slice (some ⟨w.heap.size + 1 + 1, 0, none⟩) 1 1, .bool true, .slice (some ⟨u2.heap.size + 1, 0, none⟩) 1 1] 26 (0, 0)), (u2.heap.size + 1, Obj.cells #[.int .i64 (-1), .int .i64 0] 67 (0, 0)), (u2.heap.size, Obj.cells #[.int .i64 3, .int .i64 0, .int .i64 0, .int .i64 0, .slice a1 2 c1] 39 (0, 0)), (w.heap.size + 1 + 1, Obj.cells #[.int .i64 3, .int .i64 0, .slice none 0 0, .int .i64 0, .int .i64 0, .int .i64 0, .int .i64 0, .slice (some ⟨w.heap.size + 1, 0, none⟩) 2 2, .slice none 0 0, .slice none 0 0] 51 (0, 0)), (w.heap.size + 1, Obj.cells #[.int .i64 0, .int .i64 1] 3 (0, 0)), (w.heap.size, Obj.cells #[.string ⟨#[120]⟩, .int .i64 0, .int .i64 2, .string ⟨#[121]⟩, .int .i64 0, .int .i64 2] 49 (0, 0))] V8) := by
    have k := K10.out.alloc (.cells #[.int .i64 4, .int .i64 0, .int .i64 (-2), .int .i64 0, .slice a2 2 c2] 39)
    rw [hV8] at k
    exact k
  have HO5 : Hid (V8.ownsRow B1 3 1 (.slice a1 2 c1) 2 [.int .i64 0, .int .i64 1]) := by
    show World.ownsRow _ _ _ _ _ _ _
    rw [← hV8]
    exact own_step HO4.out ((Below.refl _ _).alloc (Nat.le_refl _) _)
  have HP2 : Hid (V8.ownsRow B2 3 1 (.slice a2 2 c2) 2 [.int .i64 2, .int .i64 0]) := by
    show World.ownsRow _ _ _ _ _ _ _
    rw [← hV8]
    exact own_step HP1.out ((Below.refl _ _).alloc (Nat.le_refl _) _)
  have C4 := (goal_km V8 _ _ _ _ (K11.out.get 6 rfl) (K11.out.get 4 rfl) (K11.out.get 5 rfl) (K11.out.get 2 rfl)).1
  have b0 := cell_of (K11.out.get 1 rfl) 0
  have b1 := cell_of (K11.out.get 1 rfl) 1
  have b2 := cell_of (K11.out.get 1 rfl) 2
  have b3 := cell_of (K11.out.get 1 rfl) 3
  dsimp at b0 b1 b2 b3
  go_wp2_with fail
  refine calls_at C4 (by with_reducible rfl) (by with_reducible rfl) ?_
  rintro e u4 ⟨rfl, hb4⟩
  have HO6 : Hid (u4.ownsRow B1 3 1 (.slice a1 2 c1) 2 [.int .i64 0, .int .i64 1]) := own_step HO5.out hb4
  have HP3 : Hid (u4.ownsRow B2 3 1 (.slice a2 2 c2) 2 [.int .i64 2, .int .i64 0]) := own_step HP2.out hb4
  have K12 : Hid (Keeps w [(u3.heap.size, Obj.cells #[.int .i64 4, .int .i64 0, .int .i64 (-2), .int .i64 0, .slice a2 2 c2] 39 (0, 0)), (w.heap.size + 1 + 1 + 1, Obj.cells #[.slice (some ⟨w.heap.size, 0, none⟩) 2 2, .slice (some ⟨w.heap.size + 1 + 1, 0, none⟩) 1 1, .bool true, .slice (some ⟨u2.heap.size + 1, 0, none⟩) 1 1] 26 (0, 0)), (u2.heap.size + 1, Obj.cells #[.int .i64 (-1), .int .i64 0] 67 (0, 0)), (u2.heap.size, Obj.cells #[.int .i64 3, .int .i64 0, .int .i64 0, .int .i64 0, .slice a1 2 c1] 39 (0, 0)), (w.heap.size + 1 + 1, Obj.cells #[.int .i64 3, .int .i64 0, .slice none 0 0, .int .i64 0, .int .i64 0, .int .i64 0, .int .i64 0, .slice (some ⟨w.heap.size + 1, 0, none⟩) 2 2, .slice none 0 0, .slice none 0 0] 51 (0, 0)), (w.heap.size + 1, Obj.cells #[.int .i64 0, .int .i64 1] 3 (0, 0)), (w.heap.size, Obj.cells #[.string ⟨#[120]⟩, .int .i64 0, .int .i64 2, .string ⟨#[121]⟩, .int .i64 0, .int .i64 2] 49 (0, 0))] u4) := K11.out.step hb4
  clear C4 hb4 K10 K11 hV8 HO4 HO5 HP1 HP2
  clear b0 b1 b2 b3
  go_wp2_with fail
  obtain ⟨V9, hV9⟩ : ∃ V, u4.alloc (.cells #[.int .i64 6, .int .i64 0, .int .i64 0, .int .i64 6, .slice none 0 0] 39) = V := ⟨_, rfl⟩
  have zV9 : V9.heap.size = u4.heap.size + 1 := by
    have h : V9.heap.size = u4.heap.size + 1 := by rw [← hV9]; exact Array.size_push _
    omega
  rw [hV9]
  have K13 : Hid (Keeps w [(u4.heap.size, Obj.cells #[.int .i64 6, .int .i64 0, .int .i64 0, .int .i64 6, .slice none 0 0] 39 (0, 0)), (u3.heap.size, Obj.cells #[.int .i64 4, .int .i64 0, .int .i64 (-2), .int .i64 0, .slice a2 2 c2] 39 (0, 0)), (w.heap.size + 1 + 1 + 1, Obj.cells #[.slice (some ⟨w.heap.size, 0, none⟩) 2 2, .slice (some ⟨w.heap.size + 1 + 1, 0, none⟩) 1 1, .bool true, .slice (some ⟨u2.heap.size + 1, 0, none⟩) 1 1] 26 (0, 0)), (u2.heap.size + 1, Obj.cells #[.int .i64 (-1), .int .i64 0] 67 (0, 0)), (u2.heap.size, Obj.cells #[.int .i64 3, .int .i64 0, .int .i64 0, .int .i64 0, .slice a1 2 c1] 39 (0, 0)), (w.heap.size + 1 + 1, Obj.cells #[.int .i64 3, .int .i64 0, .slice none 0 0, .int .i64 0, .int .i64 0, .int .i64 0, .int .i64 0, .slice (some ⟨w.heap.size + 1, 0, none⟩) 2 2, .slice none 0 0, .slice none 0 0] 51 (0, 0)), (w.heap.size + 1, Obj.cells #[.int .i64 0, .int .i64 1] 3 (0, 0)), (w.heap.size, Obj.cells #[.string ⟨#[120]⟩, .int .i64 0, .int .i64 2, .string ⟨#[121]⟩, .int .i64 0, .int .i64 2] 49 (0, 0))] V9) := by
    have k := K12.out.alloc (.cells #[.int .i64 6, .int .i64 0, .int .i64 0, .int .i64 6, .slice none 0 0] 39)
    rw [hV9] at k
    exact k
  have hb9 : Below u4.heap.size u4 V9 := by rw [← hV9]; exact (Below.refl _ _).alloc (Nat.le_refl _) _
  have HO7 : Hid (V9.ownsRow B1 3 1 (.slice a1 2 c1) 2 [.int .i64 0, .int .i64 1]) := own_step HO6.out hb9
  have HP4 : Hid (V9.ownsRow B2 3 1 (.slice a2 2 c2) 2 [.int .i64 2, .int .i64 0]) := own_step HP3.out hb9
  have C5 := same_vd 6 0 6 _ _ [] V9 (nil_ints V9) (nil_ints V9)
  unfold vdC at C5
  clear hb9
  refine calls_at C5 (by with_reducible rfl) (by with_reducible rfl) ?_
  rintro e u5 ⟨rfl, hb5⟩
  have HO8 : Hid (u5.ownsRow B1 3 1 (.slice a1 2 c1) 2 [.int .i64 0, .int .i64 1]) := own_step HO7.out hb5
  have HP5 : Hid (u5.ownsRow B2 3 1 (.slice a2 2 c2) 2 [.int .i64 2, .int .i64 0]) := own_step HP4.out hb5
  have K14 : Hid (Keeps w [(u4.heap.size, Obj.cells #[.int .i64 6, .int .i64 0, .int .i64 0, .int .i64 6, .slice none 0 0] 39 (0, 0)), (u3.heap.size, Obj.cells #[.int .i64 4, .int .i64 0, .int .i64 (-2), .int .i64 0, .slice a2 2 c2] 39 (0, 0)), (w.heap.size + 1 + 1 + 1, Obj.cells #[.slice (some ⟨w.heap.size, 0, none⟩) 2 2, .slice (some ⟨w.heap.size + 1 + 1, 0, none⟩) 1 1, .bool true, .slice (some ⟨u2.heap.size + 1, 0, none⟩) 1 1] 26 (0, 0)), (u2.heap.size + 1, Obj.cells #[.int .i64 (-1), .int .i64 0] 67 (0, 0)), (u2.heap.size, Obj.cells #[.int .i64 3, .int .i64 0, .int .i64 0, .int .i64 0, .slice a1 2 c1] 39 (0, 0)), (w.heap.size + 1 + 1, Obj.cells #[.int .i64 3, .int .i64 0, .slice none 0 0, .int .i64 0, .int .i64 0, .int .i64 0, .int .i64 0, .slice (some ⟨w.heap.size + 1, 0, none⟩) 2 2, .slice none 0 0, .slice none 0 0] 51 (0, 0)), (w.heap.size + 1, Obj.cells #[.int .i64 0, .int .i64 1] 3 (0, 0)), (w.heap.size, Obj.cells #[.string ⟨#[120]⟩, .int .i64 0, .int .i64 2, .string ⟨#[121]⟩, .int .i64 0, .int .i64 2] 49 (0, 0))] u5) := K13.out.step hb5
  clear C5 hb5 K12 K13 hV9 HO6 HO7 HP3 HP4
  have C6 := weigh_goodK u5 (HG.out _ K14.out.1)
  unfold ktA at C6
  go_wp2_with fail
  refine calls_at C6 (by with_reducible rfl) (by with_reducible rfl) ?_
  rintro e u6 ⟨rfl, hb6⟩
  have HO9 : Hid (u6.ownsRow B1 3 1 (.slice a1 2 c1) 2 [.int .i64 0, .int .i64 1]) := own_step HO8.out hb6
  have HP6 : Hid (u6.ownsRow B2 3 1 (.slice a2 2 c2) 2 [.int .i64 2, .int .i64 0]) := own_step HP5.out hb6
  have K15 : Hid (Keeps w [(u4.heap.size, Obj.cells #[.int .i64 6, .int .i64 0, .int .i64 0, .int .i64 6, .slice none 0 0] 39 (0, 0)), (u3.heap.size, Obj.cells #[.int .i64 4, .int .i64 0, .int .i64 (-2), .int .i64 0, .slice a2 2 c2] 39 (0, 0)), (w.heap.size + 1 + 1 + 1, Obj.cells #[.slice (some ⟨w.heap.size, 0, none⟩) 2 2, .slice (some ⟨w.heap.size + 1 + 1, 0, none⟩) 1 1, .bool true, .slice (some ⟨u2.heap.size + 1, 0, none⟩) 1 1] 26 (0, 0)), (u2.heap.size + 1, Obj.cells #[.int .i64 (-1), .int .i64 0] 67 (0, 0)), (u2.heap.size, Obj.cells #[.int .i64 3, .int .i64 0, .int .i64 0, .int .i64 0, .slice a1 2 c1] 39 (0, 0)), (w.heap.size + 1 + 1, Obj.cells #[.int .i64 3, .int .i64 0, .slice none 0 0, .int .i64 0, .int .i64 0, .int .i64 0, .int .i64 0, .slice (some ⟨w.heap.size + 1, 0, none⟩) 2 2, .slice none 0 0, .slice none 0 0] 51 (0, 0)), (w.heap.size + 1, Obj.cells #[.int .i64 0, .int .i64 1] 3 (0, 0)), (w.heap.size, Obj.cells #[.string ⟨#[120]⟩, .int .i64 0, .int .i64 2, .string ⟨#[121]⟩, .int .i64 0, .int .i64 2] 49 (0, 0))] u6) := K14.out.step hb6
  clear C6 hb6 K14 HO8 HP5
  obtain ⟨Vy, hVy⟩ : ∃ V, u6.alloc (.cells #[.int .i64 0, .int .i64 0, .int .i64 0, .int .i64 0, .int .i64 0, .int .i64 0, .int .i64 0, .int .i64 0, .int .i64 0, .int .i64 0, .int .i64 0, .int .i64 0, .int .i64 0, .int .i64 0, .int .i64 0, .int .i64 0, .int .i64 0, .int .i64 0, .int .i64 0] 55) = V := ⟨_, rfl⟩
  have HY : Hid (Vy.heap[u6.heap.size]? = some (.cells zW 55 (0, 0))) := by show _ = _; rw [← hVy]; exact heap_alloc_new u6 _
  have hR := row_step K15.out wtK
  have hVy' : u6.alloc (.cells zW 55) = Vy := hVy
  rw [hVy'] at hR
  have HR : Hid _ := hR
  clear hR hVy'
  go_wp2_with (refine wpList_store_row rfl 55 (.tmp 10) (.tmp 55) rfl u6.heap.size wtK (by rfl) (by rfl) 55 zW HY.out infW rfl (by simp [wtK, Value.oneCell']) ?_)
  have hR := HR.out
  obtain ⟨V10, hV10⟩ : ∃ V, Vy.setRow u6.heap.size wtK = V := ⟨_, rfl⟩
  rw [hV10] at hR ⊢
  obtain ⟨hb10, k16⟩ := hR
  have K16 : Hid (Keeps w [(u6.heap.size, Obj.cells wtK 55 (0, 0)), (u4.heap.size, Obj.cells #[.int .i64 6, .int .i64 0, .int .i64 0, .int .i64 6, .slice none 0 0] 39 (0, 0)), (u3.heap.size, Obj.cells #[.int .i64 4, .int .i64 0, .int .i64 (-2), .int .i64 0, .slice a2 2 c2] 39 (0, 0)), (w.heap.size + 1 + 1 + 1, Obj.cells #[.slice (some ⟨w.heap.size, 0, none⟩) 2 2, .slice (some ⟨w.heap.size + 1 + 1, 0, none⟩) 1 1, .bool true, .slice (some ⟨u2.heap.size + 1, 0, none⟩) 1 1] 26 (0, 0)), (u2.heap.size + 1, Obj.cells #[.int .i64 (-1), .int .i64 0] 67 (0, 0)), (u2.heap.size, Obj.cells #[.int .i64 3, .int .i64 0, .int .i64 0, .int .i64 0, .slice a1 2 c1] 39 (0, 0)), (w.heap.size + 1 + 1, Obj.cells #[.int .i64 3, .int .i64 0, .slice none 0 0, .int .i64 0, .int .i64 0, .int .i64 0, .int .i64 0, .slice (some ⟨w.heap.size + 1, 0, none⟩) 2 2, .slice none 0 0, .slice none 0 0] 51 (0, 0)), (w.heap.size + 1, Obj.cells #[.int .i64 0, .int .i64 1] 3 (0, 0)), (w.heap.size, Obj.cells #[.string ⟨#[120]⟩, .int .i64 0, .int .i64 2, .string ⟨#[121]⟩, .int .i64 0, .int .i64 2] 49 (0, 0))] V10) := k16
  clear k16 HR hVy HY
  have HO10 : Hid (V10.ownsRow B1 3 1 (.slice a1 2 c1) 2 [.int .i64 0, .int .i64 1]) := own_step HO9.out hb10
  have HP7 : Hid (V10.ownsRow B2 3 1 (.slice a2 2 c2) 2 [.int .i64 2, .int .i64 0]) := own_step HP6.out hb10
  have C7 := weigh_bad V10 (HG.out _ K16.out.1)
  unfold ktB at C7
  clear hb10
  refine calls_at C7 (by with_reducible rfl) (by with_reducible rfl) ?_
  rintro e u7 ⟨⟨fp, rfl⟩, hb7⟩
  have HO11 : Hid (u7.ownsRow B1 3 1 (.slice a1 2 c1) 2 [.int .i64 0, .int .i64 1]) := own_step HO10.out hb7
  have HP8 : Hid (u7.ownsRow B2 3 1 (.slice a2 2 c2) 2 [.int .i64 2, .int .i64 0]) := own_step HP7.out hb7
  have K17 : Hid (Keeps w [(u6.heap.size, Obj.cells wtK 55 (0, 0)), (u4.heap.size, Obj.cells #[.int .i64 6, .int .i64 0, .int .i64 0, .int .i64 6, .slice none 0 0] 39 (0, 0)), (u3.heap.size, Obj.cells #[.int .i64 4, .int .i64 0, .int .i64 (-2), .int .i64 0, .slice a2 2 c2] 39 (0, 0)), (w.heap.size + 1 + 1 + 1, Obj.cells #[.slice (some ⟨w.heap.size, 0, none⟩) 2 2, .slice (some ⟨w.heap.size + 1 + 1, 0, none⟩) 1 1, .bool true, .slice (some ⟨u2.heap.size + 1, 0, none⟩) 1 1] 26 (0, 0)), (u2.heap.size + 1, Obj.cells #[.int .i64 (-1), .int .i64 0] 67 (0, 0)), (u2.heap.size, Obj.cells #[.int .i64 3, .int .i64 0, .int .i64 0, .int .i64 0, .slice a1 2 c1] 39 (0, 0)), (w.heap.size + 1 + 1, Obj.cells #[.int .i64 3, .int .i64 0, .slice none 0 0, .int .i64 0, .int .i64 0, .int .i64 0, .int .i64 0, .slice (some ⟨w.heap.size + 1, 0, none⟩) 2 2, .slice none 0 0, .slice none 0 0] 51 (0, 0)), (w.heap.size + 1, Obj.cells #[.int .i64 0, .int .i64 1] 3 (0, 0)), (w.heap.size, Obj.cells #[.string ⟨#[120]⟩, .int .i64 0, .int .i64 2, .string ⟨#[121]⟩, .int .i64 0, .int .i64 2] 49 (0, 0))] u7) := K16.out.step hb7
  clear C7 hb7 K15 K16 HO9 HO10 HP6 HP7 hV10
  obtain ⟨Vx, hVx⟩ : ∃ V, u7.alloc (.cells #[.int .i64 0, .int .i64 0, .int .i64 0, .int .i64 0, .int .i64 0, .int .i64 0, .int .i64 0, .int .i64 0, .int .i64 0, .int .i64 0, .int .i64 0, .int .i64 0, .int .i64 0, .int .i64 0, .int .i64 0, .int .i64 0, .int .i64 0, .int .i64 0, .int .i64 0] 55) = V := ⟨_, rfl⟩
  have HX : Hid (Vx.heap[u7.heap.size]? = some (.cells zW 55 (0, 0))) := by show _ = _; rw [← hVx]; exact heap_alloc_new u7 _
  have hR := row_step K17.out zW
  have hVx' : u7.alloc (.cells zW 55) = Vx := hVx
  rw [hVx'] at hR
  obtain ⟨V11, hV11⟩ : ∃ V, Vx.setRow u7.heap.size zW = V := ⟨_, rfl⟩
  rw [hV11] at hR
  have zV11 : V11.heap.size = u7.heap.size + 1 := by
    have h1 : V11.heap.size = Vx.heap.size := by rw [← hV11]; simp [World.setRow]
    have h2 : Vx.heap.size = u7.heap.size + 1 := by rw [← hVx]; exact Array.size_push _
    omega
  have hb11 := hR.1
  have K18 : Hid (Keeps w [(u6.heap.size, Obj.cells wtK 55 (0, 0)), (u4.heap.size, Obj.cells #[.int .i64 6, .int .i64 0, .int .i64 0, .int .i64 6, .slice none 0 0] 39 (0, 0)), (u3.heap.size, Obj.cells #[.int .i64 4, .int .i64 0, .int .i64 (-2), .int .i64 0, .slice a2 2 c2] 39 (0, 0)), (w.heap.size + 1 + 1 + 1, Obj.cells #[.slice (some ⟨w.heap.size, 0, none⟩) 2 2, .slice (some ⟨w.heap.size + 1 + 1, 0, none⟩) 1 1, .bool true, .slice (some ⟨u2.heap.size + 1, 0, none⟩) 1 1] 26 (0, 0)), (u2.heap.size + 1, Obj.cells #[.int .i64 (-1), .int .i64 0] 67 (0, 0)), (u2.heap.size, Obj.cells #[.int .i64 3, .int .i64 0, .int .i64 0, .int .i64 0, .slice a1 2 c1] 39 (0, 0)), (w.heap.size + 1 + 1, Obj.cells #[.int .i64 3, .int .i64 0, .slice none 0 0, .int .i64 0, .int .i64 0, .int .i64 0, .int .i64 0, .slice (some ⟨w.heap.size + 1, 0, none⟩) 2 2, .slice none 0 0, .slice none 0 0] 51 (0, 0)), (w.heap.size + 1, Obj.cells #[.int .i64 0, .int .i64 1] 3 (0, 0)), (w.heap.size, Obj.cells #[.string ⟨#[120]⟩, .int .i64 0, .int .i64 2, .string ⟨#[121]⟩, .int .i64 0, .int .i64 2] 49 (0, 0))] V11) := K17.out.step hb11
  clear hVx' hR
  obtain ⟨V12, hV12⟩ : ∃ V, V11.alloc (.cells #[.int .i64 0, .int .i64 1] 3) = V := ⟨_, rfl⟩
  have zV12 : V12.heap.size = u7.heap.size + 2 := by
    have h : V12.heap.size = V11.heap.size + 1 := by rw [← hV12]; exact Array.size_push _
    omega
  have hb12 : Below V11.heap.size V11 V12 := by rw [← hV12]; exact (Below.refl _ _).alloc (Nat.le_refl _) _
  have K19 : Hid (Keeps w [(u6.heap.size, Obj.cells wtK 55 (0, 0)), (u4.heap.size, Obj.cells #[.int .i64 6, .int .i64 0, .int .i64 0, .int .i64 6, .slice none 0 0] 39 (0, 0)), (u3.heap.size, Obj.cells #[.int .i64 4, .int .i64 0, .int .i64 (-2), .int .i64 0, .slice a2 2 c2] 39 (0, 0)), (w.heap.size + 1 + 1 + 1, Obj.cells #[.slice (some ⟨w.heap.size, 0, none⟩) 2 2, .slice (some ⟨w.heap.size + 1 + 1, 0, none⟩) 1 1, .bool true, .slice (some ⟨u2.heap.size + 1, 0, none⟩) 1 1] 26 (0, 0)), (u2.heap.size + 1, Obj.cells #[.int .i64 (-1), .int .i64 0] 67 (0, 0)), (u2.heap.size, Obj.cells #[.int .i64 3, .int .i64 0, .int .i64 0, .int .i64 0, .slice a1 2 c1] 39 (0, 0)), (w.heap.size + 1 + 1, Obj.cells #[.int .i64 3, .int .i64 0, .slice none 0 0, .int .i64 0, .int .i64 0, .int .i64 0, .int .i64 0, .slice (some ⟨w.heap.size + 1, 0, none⟩) 2 2, .slice none 0 0, .slice none 0 0] 51 (0, 0)), (w.heap.size + 1, Obj.cells #[.int .i64 0, .int .i64 1] 3 (0, 0)), (w.heap.size, Obj.cells #[.string ⟨#[120]⟩, .int .i64 0, .int .i64 2, .string ⟨#[121]⟩, .int .i64 0, .int .i64 2] 49 (0, 0))] V12) := K18.out.step hb12
  have HO13 : Hid (V12.ownsRow B1 3 1 (.slice a1 2 c1) 2 [.int .i64 0, .int .i64 1]) := own_step (own_step HO11.out hb11) hb12
  have HP10 : Hid (V12.ownsRow B2 3 1 (.slice a2 2 c2) 2 [.int .i64 2, .int .i64 0]) := own_step (own_step HP8.out hb11) hb12
  have gi12 : V12.heap[u7.heap.size + 1]? = some (.cells #[.int .i64 0, .int .i64 1] 3 (0, 0)) := by rw [← hV12, ← zV11]; exact heap_alloc_new V11 _
  have C8 := same_vd 3 0 0 _ _ [0, 1] V12 (own_mints (x := [0, 1]) HO13.out) (at_ints 0 1 gi12)
  unfold vdC at C8
  have b0 := cell_of (K18.out.get 5 rfl) 0
  have b1 := cell_of (K18.out.get 5 rfl) 1
  have b2 := cell_of (K18.out.get 5 rfl) 2
  have b3 := cell_of (K18.out.get 5 rfl) 3
  have b4 := cell_of (K18.out.get 5 rfl) 4
  dsimp at b0 b1 b2 b3 b4
  clear hb11 hb12 gi12
  go_wp2_with (refine wpList_store_row rfl 55 (.tmp 12) (.tmp 59) rfl u7.heap.size zW (by rfl) (by rfl) 55 zW HX.out infW rfl (by simp [zW, Value.oneCell']) ?_; rw [hV11])
  refine calls_at C8 (by with_reducible rfl) (by with_reducible rfl) ?_
  rintro e u8 ⟨rfl, hb8⟩
  have HP11 : Hid (u8.ownsRow B2 3 1 (.slice a2 2 c2) 2 [.int .i64 2, .int .i64 0]) := own_step HP10.out hb8
  have K20 : Hid (Keeps w [(u6.heap.size, Obj.cells wtK 55 (0, 0)), (u4.heap.size, Obj.cells #[.int .i64 6, .int .i64 0, .int .i64 0, .int .i64 6, .slice none 0 0] 39 (0, 0)), (u3.heap.size, Obj.cells #[.int .i64 4, .int .i64 0, .int .i64 (-2), .int .i64 0, .slice a2 2 c2] 39 (0, 0)), (w.heap.size + 1 + 1 + 1, Obj.cells #[.slice (some ⟨w.heap.size, 0, none⟩) 2 2, .slice (some ⟨w.heap.size + 1 + 1, 0, none⟩) 1 1, .bool true, .slice (some ⟨u2.heap.size + 1, 0, none⟩) 1 1] 26 (0, 0)), (u2.heap.size + 1, Obj.cells #[.int .i64 (-1), .int .i64 0] 67 (0, 0)), (u2.heap.size, Obj.cells #[.int .i64 3, .int .i64 0, .int .i64 0, .int .i64 0, .slice a1 2 c1] 39 (0, 0)), (w.heap.size + 1 + 1, Obj.cells #[.int .i64 3, .int .i64 0, .slice none 0 0, .int .i64 0, .int .i64 0, .int .i64 0, .int .i64 0, .slice (some ⟨w.heap.size + 1, 0, none⟩) 2 2, .slice none 0 0, .slice none 0 0] 51 (0, 0)), (w.heap.size + 1, Obj.cells #[.int .i64 0, .int .i64 1] 3 (0, 0)), (w.heap.size, Obj.cells #[.string ⟨#[120]⟩, .int .i64 0, .int .i64 2, .string ⟨#[121]⟩, .int .i64 0, .int .i64 2] 49 (0, 0))] u8) := K19.out.step hb8
  clear C8 hb8 K17 K18 K19 HO11 HO13 HP8 HP10 hV11 hV12 hVx HX
  clear b0 b1 b2 b3 b4
  obtain ⟨V13, hV13⟩ : ∃ V, u8.alloc (.cells #[.int .i64 2, .int .i64 0] 3) = V := ⟨_, rfl⟩
  have zV13 : V13.heap.size = u8.heap.size + 1 := by
    have h : V13.heap.size = u8.heap.size + 1 := by rw [← hV13]; exact Array.size_push _
    omega
  have hb13 : Below u8.heap.size u8 V13 := by rw [← hV13]; exact (Below.refl _ _).alloc (Nat.le_refl _) _
  have K21 : Hid (Keeps w [(u6.heap.size, Obj.cells wtK 55 (0, 0)), (u4.heap.size, Obj.cells #[.int .i64 6, .int .i64 0, .int .i64 0, .int .i64 6, .slice none 0 0] 39 (0, 0)), (u3.heap.size, Obj.cells #[.int .i64 4, .int .i64 0, .int .i64 (-2), .int .i64 0, .slice a2 2 c2] 39 (0, 0)), (w.heap.size + 1 + 1 + 1, Obj.cells #[.slice (some ⟨w.heap.size, 0, none⟩) 2 2, .slice (some ⟨w.heap.size + 1 + 1, 0, none⟩) 1 1, .bool true, .slice (some ⟨u2.heap.size + 1, 0, none⟩) 1 1] 26 (0, 0)), (u2.heap.size + 1, Obj.cells #[.int .i64 (-1), .int .i64 0] 67 (0, 0)), (u2.heap.size, Obj.cells #[.int .i64 3, .int .i64 0, .int .i64 0, .int .i64 0, .slice a1 2 c1] 39 (0, 0)), (w.heap.size + 1 + 1, Obj.cells #[.int .i64 3, .int .i64 0, .slice none 0 0, .int .i64 0, .int .i64 0, .int .i64 0, .int .i64 0, .slice (some ⟨w.heap.size + 1, 0, none⟩) 2 2, .slice none 0 0, .slice none 0 0] 51 (0, 0)), (w.heap.size + 1, Obj.cells #[.int .i64 0, .int .i64 1] 3 (0, 0)), (w.heap.size, Obj.cells #[.string ⟨#[120]⟩, .int .i64 0, .int .i64 2, .string ⟨#[121]⟩, .int .i64 0, .int .i64 2] 49 (0, 0))] V13) := K20.out.step hb13
  have gi13 : V13.heap[u8.heap.size]? = some (.cells #[.int .i64 2, .int .i64 0] 3 (0, 0)) := by rw [← hV13]; exact heap_alloc_new u8 _
  have C9 := same_vd 4 (-2) 0 _ _ [2, 0] V13 (own_mints (x := [2, 0]) (own_step HP11.out hb13)) (at_ints 2 0 gi13)
  unfold vdC at C9
  have b0 := cell_of (K20.out.get 2 rfl) 0
  have b1 := cell_of (K20.out.get 2 rfl) 1
  have b2 := cell_of (K20.out.get 2 rfl) 2
  have b3 := cell_of (K20.out.get 2 rfl) 3
  have b4 := cell_of (K20.out.get 2 rfl) 4
  dsimp at b0 b1 b2 b3 b4
  clear hb13 gi13
  go_wp2_with fail
  refine calls_at C9 (by with_reducible rfl) (by with_reducible rfl) ?_
  rintro e u9 ⟨rfl, hb9⟩
  have K22 : Hid (Keeps w [(u6.heap.size, Obj.cells wtK 55 (0, 0)), (u4.heap.size, Obj.cells #[.int .i64 6, .int .i64 0, .int .i64 0, .int .i64 6, .slice none 0 0] 39 (0, 0)), (u3.heap.size, Obj.cells #[.int .i64 4, .int .i64 0, .int .i64 (-2), .int .i64 0, .slice a2 2 c2] 39 (0, 0)), (w.heap.size + 1 + 1 + 1, Obj.cells #[.slice (some ⟨w.heap.size, 0, none⟩) 2 2, .slice (some ⟨w.heap.size + 1 + 1, 0, none⟩) 1 1, .bool true, .slice (some ⟨u2.heap.size + 1, 0, none⟩) 1 1] 26 (0, 0)), (u2.heap.size + 1, Obj.cells #[.int .i64 (-1), .int .i64 0] 67 (0, 0)), (u2.heap.size, Obj.cells #[.int .i64 3, .int .i64 0, .int .i64 0, .int .i64 0, .slice a1 2 c1] 39 (0, 0)), (w.heap.size + 1 + 1, Obj.cells #[.int .i64 3, .int .i64 0, .slice none 0 0, .int .i64 0, .int .i64 0, .int .i64 0, .int .i64 0, .slice (some ⟨w.heap.size + 1, 0, none⟩) 2 2, .slice none 0 0, .slice none 0 0] 51 (0, 0)), (w.heap.size + 1, Obj.cells #[.int .i64 0, .int .i64 1] 3 (0, 0)), (w.heap.size, Obj.cells #[.string ⟨#[120]⟩, .int .i64 0, .int .i64 2, .string ⟨#[121]⟩, .int .i64 0, .int .i64 2] 49 (0, 0))] u9) := K21.out.step hb9
  clear C9 hb9 K20 K21 HP11 hV13
  clear b0 b1 b2 b3 b4
  have b0 := cell_of (K22.out.get 0 rfl) 0
  have b1 := cell_of (K22.out.get 0 rfl) 1
  have b2 := cell_of (K22.out.get 0 rfl) 2
  have b3 := cell_of (K22.out.get 0 rfl) 3
  have b4 := cell_of (K22.out.get 0 rfl) 4
  have b5 := cell_of (K22.out.get 0 rfl) 5
  dsimp [wtK] at b0 b1 b2 b3 b4 b5
  go_wp2_with fail
  go_ret
  exact ⟨rfl, K22.out.1⟩

end Go.Proofs.YtjgghimjnbjlbaaGreatDoor

namespace Go.Proofs.YtjgghimjnbjlbaaGreatDoor
open Go Go.RowKit
attribute [local go_sem] Oper.semAt_some

/-- A problem without constraints and without a goal. -/
def plainOf (m : Md.Mo) : Md.Mo := { vars := m.vars, cons := [], has := false, goal := [] }
theorem plain_sols (m : Md.Mo) (h : (Md.product (plainOf m) 100000).2 = true) : allSols (plainOf m) = allV m.vars := by
  unfold allSols
  rw [if_pos h]
  unfold solsL
  exact List.filter_eq_self.2 fun _ _ => rfl
/-- What Count tells, what Product tells. -/
theorem plain_count (m : Md.Mo) : ((allSols (plainOf m)).length : Int) = (Md.product (plainOf m) 100000).1 := by
  cases h : (Md.product (plainOf m) 100000).2 with
  | true => rw [plain_sols m h]; exact (product_len h).1
  | false =>
    rw [product_zero h]
    unfold allSols
    rw [if_neg (by rw [h]; decide)]
    rfl
theorem plain_ans (m : Md.Mo) (h : (Md.product (plainOf m) 100000).2 = true) : ansD (plainOf m) = (3, 0, losL m.vars) := by
  have hr := right_num (m := plainOf m) (product_right h)
  have h0 := (all_chain m.vars fun v hv => (hr v hv).1).1
  unfold ansD
  rw [if_neg (show ¬ (plainOf m).has = true from fun h => by cases h)]
  unfold fstD
  rw [plain_sols m h]
  cases he : allV m.vars with
  | nil => rw [he] at h0; cases h0
  | cons x q =>
    rw [he] at h0
    rw [show x = losL m.vars from Option.some.inj h0]
theorem los_get (l : List Md.Vr) (i : Nat) (h : i < l.length) (h' : i < (losL l).length) : (losL l)[i] = l[i].lo := List.getElem_map _
/-- The three cells that are put in its place. -/
theorem set3_at {W : World} {g : Nat} {t : TypeId} {b0 b1 b2 b3 : Value} (h : W.heap[g]? = some (.cells #[b0, b1, b2, b3] t (0, 0))) (a1 a2 a3 : Value) : (((W.setCell ⟨g, 1, none⟩ a1).setCell ⟨g, 2, none⟩ a2).setCell ⟨g, 3, none⟩ a3).heap[g]? = some (.cells #[b0, a1, a2, a3] t (0, 0)) := by
  have h1 := set_of h 1 a1
  have h2 := set_of h1 2 a2
  have h3 := set_of h2 3 a3
  simpa using h3
theorem infM : (Tryz.prog.info? 26).map (·.size) = some 4 := by kernel_rfl
theorem mo_plain {W : World} {m : Md.Mo} {v : Value} (h : VarsAt W v m.vars) (hc : ∀ a n cp, v = .slice a n cp → n ≤ cp) : MoAt W (plainOf m) v (.slice none 0 0) (.slice none 0 0) := ⟨h, hc, ⟨none, 0, rfl, Nat.zero_le _, fun h => absurd h (Nat.lt_irrefl 0)⟩, nil_terms W⟩

set_option maxRecDepth 100000 in
set_option maxHeartbeats 8000000 in
theorem plain_any (m : Md.Mo) (vv vc vg : Value) (w : World) (h : MoAt w m vv vc vg) (hg : Gl w) (hs : m.vars.length ≤ 4398046511104 ∧ m.cons.length ≤ 977343669134 ∧ m.goal.length ≤ 8796093022208) (hsc : ∀ c ∈ m.cons, c.terms.length ≤ 8796093022208 ∧ c.xs.length ≤ 17592186044416 ∧ c.table.length ≤ 17592186044416 ∧ c.rows.length ≤ 5864062014805 ∧ ∀ r ∈ c.rows, r.length ≤ 17592186044416) : Calls Tryz.prog 4 #[moVal m vv vc vg] w fun e w' => e = .returned (.bool true) ∧ Below w.heap.size w w' := by
  obtain ⟨va, vp, rfl, hvm⟩ := h.v.form
  obtain ⟨ca, cp, rfl, hcm⟩ := h.c.form
  obtain ⟨ga, gp, rfl, hgm⟩ := h.g.form
  obtain ⟨W, hW⟩ : ∃ W, w.alloc (.cells #[.slice va m.vars.length vp, .slice ca m.cons.length cp, .bool m.has, .slice ga m.goal.length gp] 26) = W := ⟨_, rfl⟩
  have gW : W.heap[w.heap.size]? = some (.cells #[.slice va m.vars.length vp, .slice ca m.cons.length cp, .bool m.has, .slice ga m.goal.length gp] 26 (0, 0)) := by rw [← hW]; exact heap_alloc_new w _
  have bW : Below w.heap.size w W := by rw [← hW]; exact (Below.refl _ _).alloc (Nat.le_refl _) _
  have HB : Hid (Below w.heap.size w W) := bW
  have HG : Hid (∀ W, Below w.heap.size w W → Gl W) := fun W hb => hg.next hb
  have HCp : Hid (Calls Tryz.prog 19 #[moVal m (.slice va m.vars.length vp) (.slice ca m.cons.length cp) (.slice ga m.goal.length gp)] W (CpMOut W m)) := copy_any m _ _ _ W (h.below bW) hs hsc
  have HVl : Hid (m.vars.length ≤ 4398046511104) := hs.1
  have p0 := cell_of gW 0
  have p1 := cell_of gW 1
  have p2 := cell_of gW 2
  have p3 := cell_of gW 3
  dsimp at p0 p1 p2 p3
  unfold moVal at HCp ⊢
  clear h gW bW hg hs hsc hvm hcm hgm
  go_enter Tryz.func4, Tryz.ntmps4
  go_wp2_with fail
  refine calls_at HCp.out (by with_reducible rfl) (by with_reducible rfl) ?_
  rintro e w2 ⟨v1, v2, v3, xs, rfl, hb2, hco, hk1, hcap, hk2⟩
  obtain ⟨va2, vp2, rfl, _⟩ := hk1.now.form
  obtain ⟨ga2, gp2, rfl, _⟩ := hk2.now.form
  obtain ⟨ca2, cp2, rfl⟩ := own_slice hco.own
  have HV2 : Hid (VarsAt w2 (.slice va2 m.vars.length vp2) m.vars) := hk1.now
  have HCa : Hid (∀ a n cp, Value.slice va2 m.vars.length vp2 = .slice a n cp → n ≤ cp) := hcap
  have HB2 : Hid (Below w.heap.size w w2) := bl_next HB.out hb2
  clear hb2 hco hk1 hcap hk2 HCp p0 p1 p2 p3 hW HB
  obtain ⟨V, hV⟩ : ∃ V, w2.alloc (.cells #[.slice none 0 0, .slice none 0 0, .bool false, .slice none 0 0] 26) = V := ⟨_, rfl⟩
  have h0 : V.heap[w2.heap.size]? = some (.cells #[.slice none 0 0, .slice none 0 0, .bool false, .slice none 0 0] 26 (0, 0)) := by rw [← hV]; exact heap_alloc_new w2 _
  have hbV : Below w2.heap.size w2 V := by rw [← hV]; exact (Below.refl _ _).alloc (Nat.le_refl _) _
  obtain ⟨V1, hV1⟩ : ∃ V1, V.setRow w2.heap.size #[.slice va2 m.vars.length vp2, .slice ca2 m.cons.length cp2, .bool m.has, .slice ga2 m.goal.length gp2] = V1 := ⟨_, rfl⟩
  have h1 : V1.heap[w2.heap.size]? = some (.cells #[.slice va2 m.vars.length vp2, .slice ca2 m.cons.length cp2, .bool m.has, .slice ga2 m.goal.length gp2] 26 (0, 0)) := by rw [← hV1]; exact setRow_heap V _ _ _ _ _ h0
  have hbV1 : Below w2.heap.size w2 V1 := by rw [← hV1]; exact hbV.trans ⟨rfl, rfl, rfl, by simp [World.setRow], fun k hk => setRow_other V _ k _ (by omega)⟩
  obtain ⟨V2, hV2⟩ : ∃ V2, ((V1.setCell ⟨w2.heap.size, 1, none⟩ (.slice none 0 0)).setCell ⟨w2.heap.size, 2, none⟩ (.bool false)).setCell ⟨w2.heap.size, 3, none⟩ (.slice none 0 0) = V2 := ⟨_, rfl⟩
  have H0 : Hid (V.heap[w2.heap.size]? = some (.cells #[.slice none 0 0, .slice none 0 0, .bool false, .slice none 0 0] 26 (0, 0))) := h0
  have hq : V2.heap[w2.heap.size]? = some (.cells #[.slice va2 m.vars.length vp2, .slice none 0 0, .bool false, .slice none 0 0] 26 (0, 0)) := by rw [← hV2]; exact set3_at h1 _ _ _
  have hb2 : Below w2.heap.size w2 V2 := by rw [← hV2]; exact ((hbV1.setCell (Nat.le_refl _) _).setCell (Nat.le_refl _) _).setCell (Nat.le_refl _) _
  have HQ : Hid (Below w.heap.size w V2 ∧ V2.heap[w2.heap.size]? = some (.cells #[.slice va2 m.vars.length vp2, .slice none 0 0, .bool false, .slice none 0 0] 26 (0, 0)) ∧ VarsAt V2 (.slice va2 m.vars.length vp2) m.vars) := ⟨bl_next HB2.out hb2, hq, HV2.out.below hb2⟩
  have f1 := frozen_of h1 1
  have f2 := frozen_of h1 2
  have f3 := frozen_of h1 3
  have r0 := cell_of hq 0
  have k0 := cell_of h1 0
  have k1 := cell_of h1 1
  have k2 := cell_of h1 2
  have k3 := cell_of h1 3
  dsimp at r0 k0 k1 k2 k3
  clear h0 hbV hbV1 h1 hq hb2 HV2
  have HPd : Hid (∀ W, MoAt W (plainOf m) (.slice va2 m.vars.length vp2) (.slice none 0 0) (.slice none 0 0) → Calls Tryz.prog 20 #[.agg #[.slice va2 m.vars.length vp2, .slice none 0 0, .bool false, .slice none 0 0], .int .i64 100000] W fun e w' => e = .returned (.tuple #[.int .i64 (Md.product (plainOf m) 100000).1, .bool (Md.product (plainOf m) 100000).2]) ∧ Below W.heap.size W w') := fun W h => product_any (plainOf m) _ _ _ 100000 W h (by decide) (by decide)
  have HCn : Hid (∀ W, MoAt W (plainOf m) (.slice va2 m.vars.length vp2) (.slice none 0 0) (.slice none 0 0) → Calls Tryz.prog 11 #[.agg #[.slice va2 m.vars.length vp2, .slice none 0 0, .bool false, .slice none 0 0]] W fun e w' => e = .returned (.tuple #[.int .i64 (Md.product (plainOf m) 100000).1, .bool (Md.product (plainOf m) 100000).2]) ∧ Below W.heap.size W w') := fun W h => by
    have := au_count (plainOf m) _ _ _ W h
    rw [plain_count] at this
    exact this
  have HAn : Hid (∀ W, MoAt W (plainOf m) (.slice va2 m.vars.length vp2) (.slice none 0 0) (.slice none 0 0) → Calls Tryz.prog 12 #[.agg #[.slice va2 m.vars.length vp2, .slice none 0 0, .bool false, .slice none 0 0]] W (AnO (plainOf m) W)) := fun W h => au_answer (plainOf m) _ _ _ W h
  have HPa : Hid ((Md.product (plainOf m) 100000).2 = true → ansD (plainOf m) = (3, 0, losL m.vars)) := plain_ans m
  obtain ⟨P1, hP1⟩ : ∃ x, (Md.product (plainOf m) 100000).1 = x := ⟨_, rfl⟩
  obtain ⟨P2, hP2⟩ : ∃ x, (Md.product (plainOf m) 100000).2 = x := ⟨_, rfl⟩
  have HP2 : Hid ((Md.product (plainOf m) 100000).2 = P2) := hP2
  rw [hP1, hP2] at HPd HCn
  clear hP1 hP2
  by_cases hbig : (40 : Int) < (m.vars.length : Int)
  · go_wp2_with (refine wpList_store_row rfl 26 (.tmp 3) (.tmp 12) rfl w2.heap.size #[.slice va2 m.vars.length vp2, .slice ca2 m.cons.length cp2, .bool m.has, .slice ga2 m.goal.length gp2] (by rfl) (by rfl) 26 #[.slice none 0 0, .slice none 0 0, .bool false, .slice none 0 0] H0.out infM rfl (by simp [Value.oneCell']) ?_; rw [hV1])
    go_ret
    exact ⟨rfl, HQ.out.1⟩
  have HK : Hid (Calls Tryz.prog 8 #[] V2 fun e w' => e = .returned (.bool true) ∧ Below V2.heap.size V2 w') := known_any V2 (HG.out V2 HQ.out.1)
  go_wp2_with (refine wpList_store_row rfl 26 (.tmp 3) (.tmp 12) rfl w2.heap.size #[.slice va2 m.vars.length vp2, .slice ca2 m.cons.length cp2, .bool m.has, .slice ga2 m.goal.length gp2] (by rfl) (by rfl) 26 #[.slice none 0 0, .slice none 0 0, .bool false, .slice none 0 0] H0.out infM rfl (by simp [Value.oneCell']) ?_; rw [hV1])
  refine calls_at HK.out (by with_reducible rfl) (by with_reducible rfl) ?_
  rintro e w3 ⟨rfl, hb3⟩
  have HR : Hid (Below w.heap.size w w3 ∧ w3.heap[w2.heap.size]? = some (.cells #[.slice va2 m.vars.length vp2, .slice none 0 0, .bool false, .slice none 0 0] 26 (0, 0)) ∧ VarsAt w3 (.slice va2 m.vars.length vp2) m.vars) := ⟨bl_next HQ.out.1 hb3, (hb3.block _ (Array.getElem?_eq_some_iff.1 HQ.out.2.1).1).trans HQ.out.2.1, HQ.out.2.2.below hb3⟩
  clear hb3 HQ HK HG H0 hV hV1 hV2 f1 f2 f3 r0 k0 k1 k2 k3 HB2
  obtain ⟨q, hq⟩ : ∃ q, w2.heap.size = q := ⟨_, rfl⟩
  rw [hq] at HR ⊢
  clear hq
  have r0 := cell_of HR.out.2.1 0
  have r1 := cell_of HR.out.2.1 1
  have r2 := cell_of HR.out.2.1 2
  have r3 := cell_of HR.out.2.1 3
  dsimp at r0 r1 r2 r3
  go_wp2_with fail
  refine calls_at (HPd.out w3 (mo_plain HR.out.2.2 HCa.out)) (by with_reducible rfl) (by with_reducible rfl) ?_
  rintro e w4 ⟨rfl, hb4⟩
  have HS : Hid (Below w.heap.size w w4 ∧ w4.heap[q]? = some (.cells #[.slice va2 m.vars.length vp2, .slice none 0 0, .bool false, .slice none 0 0] 26 (0, 0)) ∧ VarsAt w4 (.slice va2 m.vars.length vp2) m.vars) := ⟨bl_next HR.out.1 hb4, (hb4.block _ (Array.getElem?_eq_some_iff.1 HR.out.2.1).1).trans HR.out.2.1, HR.out.2.2.below hb4⟩
  clear hb4 HPd HR r0 r1 r2 r3
  have r0 := cell_of HS.out.2.1 0
  have r1 := cell_of HS.out.2.1 1
  have r2 := cell_of HS.out.2.1 2
  have r3 := cell_of HS.out.2.1 3
  dsimp at r0 r1 r2 r3
  go_wp2_with fail
  refine calls_at (HCn.out w4 (mo_plain HS.out.2.2 HCa.out)) (by with_reducible rfl) (by with_reducible rfl) ?_
  rintro e w5 ⟨rfl, hb5⟩
  have HT : Hid (Below w.heap.size w w5 ∧ w5.heap[q]? = some (.cells #[.slice va2 m.vars.length vp2, .slice none 0 0, .bool false, .slice none 0 0] 26 (0, 0)) ∧ VarsAt w5 (.slice va2 m.vars.length vp2) m.vars) := ⟨bl_next HS.out.1 hb5, (hb5.block _ (Array.getElem?_eq_some_iff.1 HS.out.2.1).1).trans HS.out.2.1, HS.out.2.2.below hb5⟩
  clear hb5 HCn HS r0 r1 r2 r3
  have r0 := cell_of HT.out.2.1 0
  have r1 := cell_of HT.out.2.1 1
  have r2 := cell_of HT.out.2.1 2
  have r3 := cell_of HT.out.2.1 3
  dsimp at r0 r1 r2 r3
  go_wp2_with fail
  refine calls_at (HAn.out w5 (mo_plain HT.out.2.2 HCa.out)) (by with_reducible rfl) (by with_reducible rfl) ?_
  intro e w6 h6
  obtain ⟨hb6, h6⟩ := h6
  have HU : Hid (Below w.heap.size w w6 ∧ w6.heap[q]? = some (.cells #[.slice va2 m.vars.length vp2, .slice none 0 0, .bool false, .slice none 0 0] 26 (0, 0)) ∧ VarsAt w6 (.slice va2 m.vars.length vp2) m.vars) := ⟨bl_next HT.out.1 hb6, (hb6.block _ (Array.getElem?_eq_some_iff.1 HT.out.2.1).1).trans HT.out.2.1, HT.out.2.2.below hb6⟩
  rw [HP2.out] at h6
  clear HT HAn r0 r1 r2 r3
  rcases h6 with ⟨hp, rfl⟩ | ⟨hp, v, B, rfl, hB, ho⟩
  · subst hp
    clear HPa HP2 hb6
    go_wp2_with fail
    go_ret
    exact ⟨rfl, HU.out.1.alloc (by have := HU.out.1.size; omega) _⟩
  subst hp
  have ha := HPa.out HP2.out
  rw [ha] at ho ⊢
  obtain ⟨va3, vc3, rfl⟩ := own_slice ho
  have hll : (losL m.vars).length = m.vars.length := los_len m.vars
  rw [hll] at ho ⊢
  have hmi : MInts w6 (.slice va3 m.vars.length vc3) (losL m.vars) := own_mints (by rw [hll]; exact ho)
  dsimp only [vdC]
  obtain ⟨X, hX⟩ : ∃ X, w6.alloc (.cells #[.int .i64 0, .int .i64 0, .int .i64 0, .int .i64 0, .slice none 0 0] 39) = X := ⟨_, rfl⟩
  have x0 : X.heap[w6.heap.size]? = some (.cells #[.int .i64 0, .int .i64 0, .int .i64 0, .int .i64 0, .slice none 0 0] 39 (0, 0)) := by rw [← hX]; exact heap_alloc_new w6 _
  have hbX : Below w6.heap.size w6 X := by rw [← hX]; exact (Below.refl _ _).alloc (Nat.le_refl _) _
  obtain ⟨X1, hX1⟩ : ∃ X1, X.setRow w6.heap.size #[.int .i64 3, .int .i64 0, .int .i64 0, .int .i64 0, .slice va3 m.vars.length vc3] = X1 := ⟨_, rfl⟩
  have x1 : X1.heap[w6.heap.size]? = some (.cells #[.int .i64 3, .int .i64 0, .int .i64 0, .int .i64 0, .slice va3 m.vars.length vc3] 39 (0, 0)) := by rw [← hX1]; exact setRow_heap X _ _ _ _ _ x0
  have hbX1 : Below w6.heap.size w6 X1 := by rw [← hX1]; exact hbX.trans ⟨rfl, rfl, rfl, by simp [World.setRow], fun k hk => setRow_other X _ k _ (by omega)⟩
  have HX0 : Hid (X.heap[w6.heap.size]? = some (.cells #[.int .i64 0, .int .i64 0, .int .i64 0, .int .i64 0, .slice none 0 0] 39 (0, 0))) := x0
  have HF0 : Hid (Below w.heap.size w X1 ∧ X1.heap[q]? = some (.cells #[.slice va2 m.vars.length vp2, .slice none 0 0, .bool false, .slice none 0 0] 26 (0, 0)) ∧ VarsAt X1 (.slice va2 m.vars.length vp2) m.vars ∧ X1.heap[w6.heap.size]? = some (.cells #[.int .i64 3, .int .i64 0, .int .i64 0, .int .i64 0, .slice va3 m.vars.length vc3] 39 (0, 0)) ∧ MInts X1 (.slice va3 m.vars.length vc3) (losL m.vars)) :=
    ⟨bl_next HU.out.1 hbX1, (hbX1.block _ (Array.getElem?_eq_some_iff.1 HU.out.2.1).1).trans HU.out.2.1, HU.out.2.2.below hbX1, x1, hmi.below hbX1⟩
  have c0 := cell_of HF0.out.2.2.2.1 0
  have c4 := cell_of HF0.out.2.2.2.1 4
  have r0 := cell_of HF0.out.2.1 0
  dsimp at c0 c4 r0
  clear hmi hbX hbX1 x0 x1 ho hll ha HPa HP2 HU hb6
  go_wp2_with (refine wpList_store_row rfl 39 (.tmp 8) (.tmp 41) rfl w6.heap.size #[.int .i64 3, .int .i64 0, .int .i64 0, .int .i64 0, .slice va3 m.vars.length vc3] (by rfl) (by rfl) 39 #[.int .i64 0, .int .i64 0, .int .i64 0, .int .i64 0, .slice none 0 0] HX0.out infV rfl (by simp [Value.oneCell']) ?_; rw [hX1])
  obtain ⟨p, hp⟩ : ∃ p, w6.heap.size = p := ⟨_, rfl⟩
  rw [hp] at HF0 ⊢
  clear c0 c4 r0 hX hX1 HX0 hp
  go_loopw [10] (fun iv wr => ∃ i : Nat, iv = .int .i64 (i : Int) ∧ i ≤ m.vars.length ∧ Hid (Below w.heap.size w wr ∧ wr.heap[q]? = some (.cells #[.slice va2 m.vars.length vp2, .slice none 0 0, .bool false, .slice none 0 0] 26 (0, 0)) ∧ VarsAt wr (.slice va2 m.vars.length vp2) m.vars ∧ wr.heap[p]? = some (.cells #[.int .i64 3, .int .i64 0, .int .i64 0, .int .i64 0, .slice va3 m.vars.length vc3] 39 (0, 0)) ∧ MInts wr (.slice va3 m.vars.length vc3) (losL m.vars))) (fun iv _ => m.vars.length - (intOf iv).toNat)
  case atStart => exact ⟨0, rfl, Nat.zero_le _, HF0.out⟩
  case round =>
  obtain ⟨i, rfl, hi, HF⟩ := hrel
  clear HF0
  have c4 := cell_of HF.out.2.2.2.1 4
  have r0 := cell_of HF.out.2.1 0
  dsimp at c4 r0
  by_cases hin : i < m.vars.length
  · have hiI : (i : Int) < (m.vars.length : Int) := by omega
    obtain ⟨a1, d1, e1, _, _, hv⟩ := HF.out.2.2.1
    injection e1 with e1 e2 e3
    subst e1 e3
    obtain ⟨b1, o1, rfl, _, hv⟩ := hv (by omega)
    have hv1 := (hv i hin).2.1
    obtain ⟨a2, d2, f1, _, hm⟩ := HF.out.2.2.2.2
    injection f1 with f1 f2 f3
    subst f1 f3
    obtain ⟨b2, o2, rfl, _, hm⟩ := hm (by rw [los_len]; omega)
    have hm1 := hm i (by rw [los_len]; exact hin)
    rw [los_get _ _ hin] at hm1
    clear hv hm f2 e2
    have HHF : Hid (∀ k, Below w.heap.size w (wr.drewN k) ∧ (wr.drewN k).heap[q]? = some (.cells #[.slice (some ⟨b1, o1, none⟩) m.vars.length vp2, .slice none 0 0, .bool false, .slice none 0 0] 26 (0, 0)) ∧ VarsAt (wr.drewN k) (.slice (some ⟨b1, o1, none⟩) m.vars.length vp2) m.vars ∧ (wr.drewN k).heap[p]? = some (.cells #[.int .i64 3, .int .i64 0, .int .i64 0, .int .i64 0, .slice (some ⟨b2, o2, none⟩) m.vars.length vc3] 39 (0, 0)) ∧ MInts (wr.drewN k) (.slice (some ⟨b2, o2, none⟩) m.vars.length vc3) (losL m.vars)) := fun k => ⟨sc_drewN HF.out.1 k, HF.out.2.1, HF.out.2.2.1, HF.out.2.2.2.1, HF.out.2.2.2.2⟩
    have hlen := HVl.out
    generalize m.vars[i].lo = lo at hv1 hm1
    go_wp2_with fail
    go_quiet (fail)
    go_wp2_with fail
    go_roundw
    case rel => exact ⟨i + 1, by go_num, by omega, HHF.out _⟩
    case measure => simp [intOf]; omega
  · have hiI : ¬ (i : Int) < (m.vars.length : Int) := by omega
    go_wp2_with fail
    go_ret
    exact ⟨rfl, HF.out.1⟩

end Go.Proofs.YtjgghimjnbjlbaaGreatDoor
