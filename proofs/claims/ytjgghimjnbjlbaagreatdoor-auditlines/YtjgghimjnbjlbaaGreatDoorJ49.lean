/-
  Put together: AuAnswer, AuSame, AuKn, AuKm, AuKnow, AlLaw.
-/
import Derived.Test.YtjgghimjnbjlbaaGreatDoorJ45
import Derived.Test.YtjgghimjnbjlbaaGreatDoorJ48
import Derived.BigQuiet
import Derived.Deep.CutRange
namespace Go.Proofs.YtjgghimjnbjlbaaGreatDoor
open Go Go.RowKit Go.Shelf Go.Lib
attribute [local go_sem] Oper.semAt_some

/-- How a call ends that answers a verdict. -/
def VdO (d : Int × Int × List Int) (w : World) (e : Ending) (W : World) : Prop := Below w.heap.size w W ∧ ∃ v B, e = .returned (.agg (vdC d.1 d.2.1 0 v)) ∧ w.heap.size ≤ B ∧ W.ownsRow B 3 1 v d.2.2.length (d.2.2.map (.int .i64))
def lstD (m : Md.Mo) : Int × Int × List Int := match bst m (allSols m) with
  | none => (2, 0, [])
  | some (b, y) => (4, b, y)
def fstD (m : Md.Mo) : Int × Int × List Int := match allSols m with
  | [] => (2, 0, [])
  | x :: _ => (3, 0, x)
def ansD (m : Md.Mo) : Int × Int × List Int := if m.has = true then lstD m else fstD m
theorem own_nil (w : World) (B : Nat) : w.ownsRow B 3 1 (.slice none 0 0) 0 [] := ⟨rfl, .inl ⟨rfl, rfl⟩⟩
theorem own_sl {w : World} {B : Nat} {v : Value} {n : Nat} {xs : List Value} (h : w.ownsRow B 3 1 v n xs) : ∃ a c, v = .slice a n c := by
  rcases h.2 with ⟨rfl, h0⟩ | ⟨g', cap, cur, rfl, _⟩
  · exact ⟨none, 0, by rw [h0]⟩
  · exact ⟨_, _, rfl⟩
theorem first_vd (m : Md.Mo) (vv vc vg : Value) (w : World) (h : MoAt w m vv vc vg) : Calls Tryz.prog 35 #[moVal m vv vc vg] w (VdO (fstD m) w) := by
  refine (au_first m vv vc vg w h).mono ?_
  rintro e W ⟨hb, h | ⟨x, q, v, B, h1, h2, h3, h4⟩⟩
  · refine ⟨hb, .slice none 0 0, w.heap.size, ?_, Nat.le_refl _, ?_⟩ <;> unfold fstD <;> rw [h.1]
    · exact h.2
    · exact own_nil _ _
  · refine ⟨hb, v, B, ?_, h3, ?_⟩ <;> unfold fstD <;> rw [h1]
    · exact h2
    · exact h4
theorem least_vd (m : Md.Mo) (vv vc vg : Value) (w : World) (h : MoAt w m vv vc vg) : Calls Tryz.prog 34 #[moVal m vv vc vg] w (VdO (lstD m) w) := by
  refine (au_least m vv vc vg w h).mono ?_
  rintro e W ⟨hb, h⟩
  refine ⟨hb, ?_⟩
  unfold lstD
  cases hh : bst m (allSols m) with
  | none => rw [hh] at h; exact ⟨_, w.heap.size, h, Nat.le_refl _, own_nil _ _⟩
  | some o =>
    obtain ⟨b, y⟩ := o
    rw [hh] at h
    exact h
/-- How Answer ends. -/
def AnO (m : Md.Mo) (w : World) (e : Ending) (W : World) : Prop := Below w.heap.size w W ∧ (((Md.product m 100000).2 = false ∧ e = .returned (.tuple #[.agg #[.int .i64 0, .int .i64 0, .int .i64 0, .int .i64 0, .slice none 0 0], .bool false])) ∨
  ((Md.product m 100000).2 = true ∧ ∃ v B, e = .returned (.tuple #[.agg (vdC (ansD m).1 (ansD m).2.1 0 v), .bool true]) ∧ w.heap.size ≤ B ∧ W.ownsRow B 3 1 v (ansD m).2.2.length ((ansD m).2.2.map (.int .i64))))

set_option maxRecDepth 100000 in
set_option maxHeartbeats 4000000 in
theorem au_answer (m : Md.Mo) (vv vc vg : Value) (w : World) (h : MoAt w m vv vc vg) : Calls Tryz.prog 12 #[moVal m vv vc vg] w (AnO m w) := by
  obtain ⟨va, vp, rfl, hvm⟩ := h.v.form
  obtain ⟨ca, cp, rfl, hcm⟩ := h.c.form
  obtain ⟨ga, gp, rfl, hgm⟩ := h.g.form
  obtain ⟨W1, hW1⟩ : ∃ W, w.alloc (.cells #[.slice va m.vars.length vp, .slice ca m.cons.length cp, .bool m.has, .slice ga m.goal.length gp] 26) = W := ⟨_, rfl⟩
  have g1 : W1.heap[w.heap.size]? = some (.cells #[.slice va m.vars.length vp, .slice ca m.cons.length cp, .bool m.has, .slice ga m.goal.length gp] 26 (0, 0)) := by rw [← hW1]; exact heap_alloc_new w _
  have b1 : Below w.heap.size w W1 := by rw [← hW1]; exact (Below.refl _ _).alloc (Nat.le_refl _) _
  have z1 : W1.heap.size = w.heap.size + 1 := by rw [← hW1]; exact Array.size_push _
  obtain ⟨W2, hW2⟩ : ∃ W, W1.alloc (.cells #[.int .i64 0, .int .i64 0, .int .i64 0, .int .i64 0, .slice none 0 0] 39) = W := ⟨_, rfl⟩
  have g2 : W2.heap[w.heap.size + 1]? = some (.cells #[.int .i64 0, .int .i64 0, .int .i64 0, .int .i64 0, .slice none 0 0] 39 (0, 0)) := by rw [← hW2, ← z1]; exact heap_alloc_new W1 _
  have b2 : Below w.heap.size w W2 := by rw [← hW2]; exact b1.alloc (by omega) _
  have z2 : W2.heap.size = w.heap.size + 2 := by
    have h : W2.heap.size = W1.heap.size + 1 := by rw [← hW2]; exact Array.size_push _
    omega
  have m2 : W2.heap[w.heap.size]? = some (.cells #[.slice va m.vars.length vp, .slice ca m.cons.length cp, .bool m.has, .slice ga m.goal.length gp] 26 (0, 0)) := by rw [← hW2]; exact (Below.heap_alloc _ _ _ (by omega)).trans g1
  have p0 := cell_of m2 0
  have p1 := cell_of m2 1
  have p2 := cell_of m2 2
  have p3 := cell_of m2 3
  dsimp at p0 p1 p2 p3
  have HW2 : Hid (Below w.heap.size w W2) := b2
  have HZW : Hid (W2.heap.size = w.heap.size + 2) := z2
  have HGW : Hid (W2.heap[w.heap.size + 1]? = some (.cells #[.int .i64 0, .int .i64 0, .int .i64 0, .int .i64 0, .slice none 0 0] 39 (0, 0))) := g2
  have HMW : Hid (W2.heap[w.heap.size]? = some (.cells #[.slice va m.vars.length vp, .slice ca m.cons.length cp, .bool m.has, .slice ga m.goal.length gp] 26 (0, 0))) := m2
  have hC := countable_any m _ _ _ W2 (h.below b2)
  have HMo : Hid (∀ W, Below w.heap.size w W → MoAt W m (.slice va m.vars.length vp) (.slice ca m.cons.length cp) (.slice ga m.goal.length gp)) := fun W hb => h.below hb
  unfold moVal at hC ⊢
  clear h g1 b1 g2 b2 m2
  cases hs : (Md.product m 100000).2 with
  | false =>
    rw [hs] at hC
    go_enter Tryz.func12, Tryz.ntmps12
    go_wp2_with (go_at_call 28; refine hC.mono ?_; rintro e w2 ⟨rfl, hb2⟩; have HB2 : Hid (Below W2.heap.size W2 w2) := hb2; have HR2 : Hid (w2.heap[w.heap.size + 1]? = some (.cells #[.int .i64 0, .int .i64 0, .int .i64 0, .int .i64 0, .slice none 0 0] 39 (0, 0))) := (hb2.block _ (by have := HZW.out; omega)).trans HGW.out; have d0 := cell_of HR2.out 0; have d1 := cell_of HR2.out 1; have d2 := cell_of HR2.out 2; have d3 := cell_of HR2.out 3; have d4 := cell_of HR2.out 4; have e0 := frozen_of HR2.out 0; have e1 := frozen_of HR2.out 1; have e2 := frozen_of HR2.out 2; have e3 := frozen_of HR2.out 3; have e4 := frozen_of HR2.out 4; dsimp at d0 d1 d2 d3 d4; clear hb2)
    have z2 := HZW.out
    have hg5 := set5_at HR2.out (.int .i64 0) (.int .i64 0) (.int .i64 0) (.int .i64 0) (.slice none 0 0)
    have hb5 := set5_bl (HW2.out.trans (HB2.out.mono (by omega))) (w.heap.size + 1) (by omega) (.int .i64 0) (.int .i64 0) (.int .i64 0) (.int .i64 0) (.slice none 0 0)
    exact bodyPost_ret (res_wt Tryz.results12 _ _ (w.heap.size + 1) 39 #[.int .i64 0, .int .i64 0, .int .i64 0, .int .i64 0, .slice none 0 0] (0, 0) _ rfl hg5 Tryz.underlying39 rfl infV) rfl ⟨hb5, .inl ⟨hs, rfl⟩⟩
  | true =>
    rw [hs] at hC
    have HS : Hid ((Md.product m 100000).2 = true) := hs
    clear hs
    cases hh : m.has with
    | true =>
      have hD : ansD m = lstD m := by unfold ansD; rw [hh]; rfl
      have hL : ∀ W, Below w.heap.size w W → Calls Tryz.prog 34 #[.agg #[.slice va m.vars.length vp, .slice ca m.cons.length cp, .bool true, .slice ga m.goal.length gp]] W (VdO (lstD m) W) := fun W hb => by
        have := least_vd m _ _ _ W (HMo.out W hb)
        unfold moVal at this
        rwa [hh] at this
      obtain ⟨⟨k, wo, y⟩, hd⟩ : ∃ d, lstD m = d := ⟨_, rfl⟩
      have HD : Hid (ansD m = (k, wo, y)) := hD.trans hd
      rw [hd] at hL
      have HL : Hid (∀ W, Below w.heap.size w W → Calls Tryz.prog 34 #[.agg #[.slice va m.vars.length vp, .slice ca m.cons.length cp, .bool true, .slice ga m.goal.length gp]] W (VdO (k, wo, y) W)) := hL
      rw [hh] at hC p2 HMW hW1
      clear hD hd hL HMo hh
      go_enter Tryz.func12, Tryz.ntmps12
      go_wp2_with (first | (go_at_call 28; refine hC.mono ?_; rintro e w2 ⟨rfl, hb2⟩; have HB2 : Hid (Below W2.heap.size W2 w2) := hb2; have HR2 : Hid (w2.heap[w.heap.size + 1]? = some (.cells #[.int .i64 0, .int .i64 0, .int .i64 0, .int .i64 0, .slice none 0 0] 39 (0, 0))) := (hb2.block _ (by have := HZW.out; omega)).trans HGW.out; have HZ2 : Hid (w.heap.size + 2 ≤ w2.heap.size) := (by have := HZW.out; have := hb2.size; show _ ≤ _; omega); have HM2 := (hb2.block w.heap.size (by have := HZW.out; omega)).trans HMW.out; have q0 := cell_of HM2 0; have q1 := cell_of HM2 1; have q2 := cell_of HM2 2; have q3 := cell_of HM2 3; dsimp at q0 q1 q2 q3; have hLL := HL.out w2 (HW2.out.trans (hb2.mono (by have := HZW.out; omega))); clear hb2 HM2) | (go_at_call 34; refine (hLL).mono ?_; rintro e w3 ⟨hb3, v, B, rfl, hB, how⟩; obtain ⟨ya, yc, rfl⟩ := own_sl how; have HB3 : Hid (Below w2.heap.size w2 w3) := hb3; have HBB : Hid (w2.heap.size ≤ B) := hB; have HOw : Hid (w3.ownsRow B 3 1 (.slice ya y.length yc) y.length (y.map (.int .i64))) := how; have HR3 : Hid (w3.heap[w.heap.size + 1]? = some (.cells #[.int .i64 0, .int .i64 0, .int .i64 0, .int .i64 0, .slice none 0 0] 39 (0, 0))) := (hb3.block _ (by have := HZ2.out; omega)).trans HR2.out; have d0 := cell_of HR3.out 0; have d1 := cell_of HR3.out 1; have d2 := cell_of HR3.out 2; have d3 := cell_of HR3.out 3; have d4 := cell_of HR3.out 4; have e0 := frozen_of HR3.out 0; have e1 := frozen_of HR3.out 1; have e2 := frozen_of HR3.out 2; have e3 := frozen_of HR3.out 3; have e4 := frozen_of HR3.out 4; dsimp at d0 d1 d2 d3 d4; clear hb3 hB how; unfold vdC))
      have z2 := HZW.out
      have z3 := HZ2.out
      have z4 := HBB.out
      have hg5 := set5_at HR3.out (.int .i64 k) (.int .i64 0) (.int .i64 wo) (.int .i64 0) (.slice ya y.length yc)
      have hb5 := set5_bl ((HW2.out.trans (HB2.out.mono (by omega))).trans (HB3.out.mono (by omega))) (w.heap.size + 1) (by omega) (.int .i64 k) (.int .i64 0) (.int .i64 wo) (.int .i64 0) (.slice ya y.length yc)
      have ho5 := own_keep HOw.out fun g hg => set5_off w3 (w.heap.size + 1) (.int .i64 k) (.int .i64 0) (.int .i64 wo) (.int .i64 0) (.slice ya y.length yc) g (by have := (own_ge HOw.out hg).1; omega)
      refine bodyPost_ret (res_wt Tryz.results12 _ _ (w.heap.size + 1) 39 (vdC k wo 0 (.slice ya y.length yc)) (0, 0) _ rfl hg5 Tryz.underlying39 rfl infV) rfl ⟨hb5, .inr ⟨HS.out, ?_⟩⟩
      rw [HD.out]
      exact ⟨_, B, rfl, by omega, ho5⟩
    | false =>
      have hD : ansD m = fstD m := by unfold ansD; rw [hh]; rfl
      have hL : ∀ W, Below w.heap.size w W → Calls Tryz.prog 35 #[.agg #[.slice va m.vars.length vp, .slice ca m.cons.length cp, .bool false, .slice ga m.goal.length gp]] W (VdO (fstD m) W) := fun W hb => by
        have := first_vd m _ _ _ W (HMo.out W hb)
        unfold moVal at this
        rwa [hh] at this
      obtain ⟨⟨k, wo, y⟩, hd⟩ : ∃ d, fstD m = d := ⟨_, rfl⟩
      have HD : Hid (ansD m = (k, wo, y)) := hD.trans hd
      rw [hd] at hL
      have HL : Hid (∀ W, Below w.heap.size w W → Calls Tryz.prog 35 #[.agg #[.slice va m.vars.length vp, .slice ca m.cons.length cp, .bool false, .slice ga m.goal.length gp]] W (VdO (k, wo, y) W)) := hL
      rw [hh] at hC p2 HMW hW1
      clear hD hd hL HMo hh
      go_enter Tryz.func12, Tryz.ntmps12
      go_wp2_with (first | (go_at_call 28; refine hC.mono ?_; rintro e w2 ⟨rfl, hb2⟩; have HB2 : Hid (Below W2.heap.size W2 w2) := hb2; have HR2 : Hid (w2.heap[w.heap.size + 1]? = some (.cells #[.int .i64 0, .int .i64 0, .int .i64 0, .int .i64 0, .slice none 0 0] 39 (0, 0))) := (hb2.block _ (by have := HZW.out; omega)).trans HGW.out; have HZ2 : Hid (w.heap.size + 2 ≤ w2.heap.size) := (by have := HZW.out; have := hb2.size; show _ ≤ _; omega); have HM2 := (hb2.block w.heap.size (by have := HZW.out; omega)).trans HMW.out; have q0 := cell_of HM2 0; have q1 := cell_of HM2 1; have q2 := cell_of HM2 2; have q3 := cell_of HM2 3; dsimp at q0 q1 q2 q3; have hLL := HL.out w2 (HW2.out.trans (hb2.mono (by have := HZW.out; omega))); clear hb2 HM2) | (go_at_call 35; refine (hLL).mono ?_; rintro e w3 ⟨hb3, v, B, rfl, hB, how⟩; obtain ⟨ya, yc, rfl⟩ := own_sl how; have HB3 : Hid (Below w2.heap.size w2 w3) := hb3; have HBB : Hid (w2.heap.size ≤ B) := hB; have HOw : Hid (w3.ownsRow B 3 1 (.slice ya y.length yc) y.length (y.map (.int .i64))) := how; have HR3 : Hid (w3.heap[w.heap.size + 1]? = some (.cells #[.int .i64 0, .int .i64 0, .int .i64 0, .int .i64 0, .slice none 0 0] 39 (0, 0))) := (hb3.block _ (by have := HZ2.out; omega)).trans HR2.out; have d0 := cell_of HR3.out 0; have d1 := cell_of HR3.out 1; have d2 := cell_of HR3.out 2; have d3 := cell_of HR3.out 3; have d4 := cell_of HR3.out 4; have e0 := frozen_of HR3.out 0; have e1 := frozen_of HR3.out 1; have e2 := frozen_of HR3.out 2; have e3 := frozen_of HR3.out 3; have e4 := frozen_of HR3.out 4; dsimp at d0 d1 d2 d3 d4; clear hb3 hB how; unfold vdC))
      have z2 := HZW.out
      have z3 := HZ2.out
      have z4 := HBB.out
      have hg5 := set5_at HR3.out (.int .i64 k) (.int .i64 0) (.int .i64 wo) (.int .i64 0) (.slice ya y.length yc)
      have hb5 := set5_bl ((HW2.out.trans (HB2.out.mono (by omega))).trans (HB3.out.mono (by omega))) (w.heap.size + 1) (by omega) (.int .i64 k) (.int .i64 0) (.int .i64 wo) (.int .i64 0) (.slice ya y.length yc)
      have ho5 := own_keep HOw.out fun g hg => set5_off w3 (w.heap.size + 1) (.int .i64 k) (.int .i64 0) (.int .i64 wo) (.int .i64 0) (.slice ya y.length yc) g (by have := (own_ge HOw.out hg).1; omega)
      refine bodyPost_ret (res_wt Tryz.results12 _ _ (w.heap.size + 1) 39 (vdC k wo 0 (.slice ya y.length yc)) (0, 0) _ rfl hg5 Tryz.underlying39 rfl infV) rfl ⟨hb5, .inr ⟨HS.out, ?_⟩⟩
      rw [HD.out]
      exact ⟨_, B, rfl, by omega, ho5⟩

/-- How All ends. -/
def AlO (m : Md.Mo) (w : World) (e : Ending) (W : World) : Prop := Below w.heap.size w W ∧ (((Md.product m 100000).2 = false ∧ e = .returned (.tuple #[.agg #[.int .i64 0, .int .i64 0, .int .i64 0, .int .i64 0, .slice none 0 0], .bool false])) ∨
  ((Md.product m 100000).2 = true ∧ e = .returned (.tuple #[.agg (vdC 6 0 ((allSols m).length : Int) (.slice none 0 0)), .bool true])))
set_option maxRecDepth 100000 in
set_option maxHeartbeats 4000000 in
theorem au_all (m : Md.Mo) (vv vc vg : Value) (w : World) (h : MoAt w m vv vc vg) : Calls Tryz.prog 13 #[moVal m vv vc vg] w (AlO m w) := by
  obtain ⟨va, vp, rfl, hvm⟩ := h.v.form
  obtain ⟨ca, cp, rfl, hcm⟩ := h.c.form
  obtain ⟨ga, gp, rfl, hgm⟩ := h.g.form
  obtain ⟨W1, hW1⟩ : ∃ W, w.alloc (.cells #[.slice va m.vars.length vp, .slice ca m.cons.length cp, .bool m.has, .slice ga m.goal.length gp] 26) = W := ⟨_, rfl⟩
  have g1 : W1.heap[w.heap.size]? = some (.cells #[.slice va m.vars.length vp, .slice ca m.cons.length cp, .bool m.has, .slice ga m.goal.length gp] 26 (0, 0)) := by rw [← hW1]; exact heap_alloc_new w _
  have b1 : Below w.heap.size w W1 := by rw [← hW1]; exact (Below.refl _ _).alloc (Nat.le_refl _) _
  have z1 : W1.heap.size = w.heap.size + 1 := by rw [← hW1]; exact Array.size_push _
  obtain ⟨W2, hW2⟩ : ∃ W, W1.alloc (.cells #[.int .i64 0, .int .i64 0, .int .i64 0, .int .i64 0, .slice none 0 0] 39) = W := ⟨_, rfl⟩
  have g2 : W2.heap[w.heap.size + 1]? = some (.cells #[.int .i64 0, .int .i64 0, .int .i64 0, .int .i64 0, .slice none 0 0] 39 (0, 0)) := by rw [← hW2, ← z1]; exact heap_alloc_new W1 _
  have b2 : Below w.heap.size w W2 := by rw [← hW2]; exact b1.alloc (by omega) _
  have z2 : W2.heap.size = w.heap.size + 2 := by
    have h : W2.heap.size = W1.heap.size + 1 := by rw [← hW2]; exact Array.size_push _
    omega
  have m2 : W2.heap[w.heap.size]? = some (.cells #[.slice va m.vars.length vp, .slice ca m.cons.length cp, .bool m.has, .slice ga m.goal.length gp] 26 (0, 0)) := by rw [← hW2]; exact (Below.heap_alloc _ _ _ (by omega)).trans g1
  have p0 := cell_of m2 0
  have p1 := cell_of m2 1
  have p2 := cell_of m2 2
  have p3 := cell_of m2 3
  dsimp at p0 p1 p2 p3
  have HW2 : Hid (Below w.heap.size w W2) := b2
  have HZW : Hid (W2.heap.size = w.heap.size + 2) := z2
  have HGW : Hid (W2.heap[w.heap.size + 1]? = some (.cells #[.int .i64 0, .int .i64 0, .int .i64 0, .int .i64 0, .slice none 0 0] 39 (0, 0))) := g2
  have HMW : Hid (W2.heap[w.heap.size]? = some (.cells #[.slice va m.vars.length vp, .slice ca m.cons.length cp, .bool m.has, .slice ga m.goal.length gp] 26 (0, 0))) := m2
  have hC := au_count m _ _ _ W2 (h.below b2)
  unfold moVal at hC ⊢
  clear h g1 b1 g2 b2 m2
  obtain ⟨n, hn⟩ : ∃ n : Int, ((allSols m).length : Int) = n := ⟨_, rfl⟩
  rw [hn] at hC
  unfold AlO
  rw [hn]
  clear hn
  cases hs : (Md.product m 100000).2 with
  | false =>
    rw [hs] at hC
    go_enter Tryz.func13, Tryz.ntmps13
    go_wp2_with (go_at_call 11; refine hC.mono ?_; rintro e w2 ⟨rfl, hb2⟩; have HB2 : Hid (Below W2.heap.size W2 w2) := hb2; have HR2 : Hid (w2.heap[w.heap.size + 1]? = some (.cells #[.int .i64 0, .int .i64 0, .int .i64 0, .int .i64 0, .slice none 0 0] 39 (0, 0))) := (hb2.block _ (by have := HZW.out; omega)).trans HGW.out; have d0 := cell_of HR2.out 0; have d1 := cell_of HR2.out 1; have d2 := cell_of HR2.out 2; have d3 := cell_of HR2.out 3; have d4 := cell_of HR2.out 4; have e0 := frozen_of HR2.out 0; have e1 := frozen_of HR2.out 1; have e2 := frozen_of HR2.out 2; have e3 := frozen_of HR2.out 3; have e4 := frozen_of HR2.out 4; dsimp at d0 d1 d2 d3 d4; clear hb2)
    have z2 := HZW.out
    have hg5 := set5_at HR2.out (.int .i64 0) (.int .i64 0) (.int .i64 0) (.int .i64 0) (.slice none 0 0)
    have hb5 := set5_bl (HW2.out.trans (HB2.out.mono (by omega))) (w.heap.size + 1) (by omega) (.int .i64 0) (.int .i64 0) (.int .i64 0) (.int .i64 0) (.slice none 0 0)
    exact bodyPost_ret (res_wt Tryz.results13 _ _ (w.heap.size + 1) 39 #[.int .i64 0, .int .i64 0, .int .i64 0, .int .i64 0, .slice none 0 0] (0, 0) _ rfl hg5 Tryz.underlying39 rfl infV) rfl ⟨hb5, .inl ⟨trivial, rfl⟩⟩
  | true =>
    rw [hs] at hC
    go_enter Tryz.func13, Tryz.ntmps13
    go_wp2_with (go_at_call 11; refine hC.mono ?_; rintro e w2 ⟨rfl, hb2⟩; have HB2 : Hid (Below W2.heap.size W2 w2) := hb2; have HR2 : Hid (w2.heap[w.heap.size + 1]? = some (.cells #[.int .i64 0, .int .i64 0, .int .i64 0, .int .i64 0, .slice none 0 0] 39 (0, 0))) := (hb2.block _ (by have := HZW.out; omega)).trans HGW.out; have d0 := cell_of HR2.out 0; have d1 := cell_of HR2.out 1; have d2 := cell_of HR2.out 2; have d3 := cell_of HR2.out 3; have d4 := cell_of HR2.out 4; have e0 := frozen_of HR2.out 0; have e1 := frozen_of HR2.out 1; have e2 := frozen_of HR2.out 2; have e3 := frozen_of HR2.out 3; have e4 := frozen_of HR2.out 4; dsimp at d0 d1 d2 d3 d4; clear hb2)
    have z2 := HZW.out
    have hg5 := set5_at HR2.out (.int .i64 6) (.int .i64 0) (.int .i64 0) (.int .i64 n) (.slice none 0 0)
    have hb5 := set5_bl (HW2.out.trans (HB2.out.mono (by omega))) (w.heap.size + 1) (by omega) (.int .i64 6) (.int .i64 0) (.int .i64 0) (.int .i64 n) (.slice none 0 0)
    exact bodyPost_ret (res_wt Tryz.results13 _ _ (w.heap.size + 1) 39 #[.int .i64 6, .int .i64 0, .int .i64 0, .int .i64 n, .slice none 0 0] (0, 0) _ rfl hg5 Tryz.underlying39 rfl infV) rfl ⟨hb5, .inr ⟨trivial, rfl⟩⟩

end Go.Proofs.YtjgghimjnbjlbaaGreatDoor

namespace Go.Proofs.YtjgghimjnbjlbaaGreatDoor
open Go Go.RowKit Go.Shelf Go.Lib
attribute [local go_sem] Oper.semAt_some

set_option maxRecDepth 10000 in
set_option maxHeartbeats 1000000 in
theorem same_ints (v v' : Value) (c : List Int) (w : World) (h : MInts w v c) (h' : MInts w v' c) : Calls Tryz.prog 18 #[v, v'] w fun e w' => e = .returned (.bool true) ∧ Below w.heap.size w w' := by
  obtain ⟨a, cap, rfl, hl, hc⟩ := h
  obtain ⟨a', cap', rfl, _, hc'⟩ := h'
  unfold maxLen at hl
  have HC : Hid (∀ w', Below w.heap.size w w' → ∀ j (hj : j < c.length), ∃ g o, a = some ⟨g, o, none⟩ ∧ w'.cell? ⟨g, o + j, none⟩ = some (.int .i64 c[j])) := fun w' hb j hj => by
    obtain ⟨g, o, e1, e2, e3⟩ := hc (by omega)
    exact ⟨g, o, e1, (hb.cell (p := ⟨g, o + j, none⟩) e2).trans (e3 j hj)⟩
  have HC' : Hid (∀ w', Below w.heap.size w w' → ∀ j (hj : j < c.length), ∃ g o, a' = some ⟨g, o, none⟩ ∧ w'.cell? ⟨g, o + j, none⟩ = some (.int .i64 c[j])) := fun w' hb j hj => by
    obtain ⟨g, o, e1, e2, e3⟩ := hc' (by omega)
    exact ⟨g, o, e1, (hb.cell (p := ⟨g, o + j, none⟩) e2).trans (e3 j hj)⟩
  clear hc hc'
  go_enter Tryz.func18, Tryz.ntmps18
  go_wp2_with fail
  go_loopw [5] (fun iv wr => ∃ k : Nat, iv = .int .i64 (k : Int) ∧ k ≤ c.length ∧ Hid (Below w.heap.size w wr)) (fun iv _ => c.length - (RowKit.intOf iv).toNat)
  case atStart => exact ⟨0, rfl, Nat.zero_le _, Below.refl _ _⟩
  case round =>
    obtain ⟨k, rfl, hk, HBr⟩ := hrel
    by_cases hkn : k < c.length
    · have hkI : (k : Int) < (c.length : Int) := by omega
      obtain ⟨g, o, rfl, x0⟩ := HC.out wr HBr.out k hkn
      obtain ⟨g', o', rfl, y0⟩ := HC'.out wr HBr.out k hkn
      obtain ⟨y, hy⟩ : ∃ y, c[k] = y := ⟨_, rfl⟩
      rw [hy] at x0 y0
      have hyy : (y == y) = true := by simp
      clear hy
      go_wp2_with fail
      go_region
      all_goals
        go_wp2_with fail
        go_roundw
        case rel => exact ⟨k + 1, by go_num, hkn, HBr.out.drew⟩
        case measure => simp [RowKit.intOf]; omega
    · have hke : k = c.length := by omega
      subst hke
      have hkI : ¬ (c.length : Int) < (c.length : Int) := by omega
      go_wp2_with fail
      go_ret
      exact ⟨rfl, HBr.out⟩

set_option maxRecDepth 10000 in
set_option maxHeartbeats 1000000 in
theorem same_vd (k wo n : Int) (v v' : Value) (c : List Int) (w : World) (h : MInts w v c) (h' : MInts w v' c) : Calls Tryz.prog 14 #[.agg (vdC k wo n v), .agg (vdC k wo n v')] w fun e w' => e = .returned (.bool true) ∧ Below w.heap.size w w' := by
  have HI : Hid (∀ w', Below w.heap.size w w' → Calls Tryz.prog 18 #[v, v'] w' fun e w2 => e = .returned (.bool true) ∧ Below w'.heap.size w' w2) := fun w' hb => same_ints v v' c w' (h.below hb) (h'.below hb)
  obtain ⟨a, cap, rfl, _, _⟩ := h
  obtain ⟨a', cap', rfl, _, _⟩ := h'
  obtain ⟨l, hl⟩ : ∃ l, c.length = l := ⟨_, rfl⟩
  rw [hl] at HI ⊢
  obtain ⟨W1, hW1⟩ : ∃ W, w.alloc (.cells (vdC k wo n (.slice a l cap)) 39) = W := ⟨_, rfl⟩
  have g1 : W1.heap[w.heap.size]? = some (.cells (vdC k wo n (.slice a l cap)) 39 (0, 0)) := by rw [← hW1]; exact heap_alloc_new w _
  have b1 : Below w.heap.size w W1 := by rw [← hW1]; exact (Below.refl _ _).alloc (Nat.le_refl _) _
  have z1 : W1.heap.size = w.heap.size + 1 := by rw [← hW1]; exact Array.size_push _
  obtain ⟨W2, hW2⟩ : ∃ W, W1.alloc (.cells (vdC k wo n (.slice a' l cap')) 39) = W := ⟨_, rfl⟩
  have g2 : W2.heap[w.heap.size + 1]? = some (.cells (vdC k wo n (.slice a' l cap')) 39 (0, 0)) := by rw [← hW2, ← z1]; exact heap_alloc_new W1 _
  have b2 : Below w.heap.size w W2 := by rw [← hW2]; exact b1.alloc (by omega) _
  have z2 : W2.heap.size = w.heap.size + 2 := by
    have h : W2.heap.size = W1.heap.size + 1 := by rw [← hW2]; exact Array.size_push _
    omega
  have m2 : W2.heap[w.heap.size]? = some (.cells (vdC k wo n (.slice a l cap)) 39 (0, 0)) := by rw [← hW2]; exact (Below.heap_alloc _ _ _ (by omega)).trans g1
  unfold vdC at g1 g2 m2 hW1 hW2 ⊢
  have p0 := cell_of m2 0
  have p1 := cell_of m2 1
  have p2 := cell_of m2 2
  have p3 := cell_of m2 3
  have p4 := cell_of m2 4
  have q0 := cell_of g2 0
  have q1 := cell_of g2 1
  have q2 := cell_of g2 2
  have q3 := cell_of g2 3
  have q4 := cell_of g2 4
  dsimp at p0 p1 p2 p3 p4 q0 q1 q2 q3 q4
  have hI := HI.out W2 b2
  have HB2 : Hid (Below w.heap.size w W2) := b2
  have hk1 : (k == k) = true := by simp
  have hk2 : (wo == wo) = true := by simp
  have hk3 : (n == n) = true := by simp
  clear g1 g2 m2 b1 b2 hl
  go_enter Tryz.func14, Tryz.ntmps14
  go_wp2_with (go_at_call 18; refine hI.mono ?_; rintro e w3 ⟨rfl, hb3⟩; have HB3 : Hid (Below W2.heap.size W2 w3) := hb3; clear hb3)
  go_ret
  exact ⟨rfl, HB2.out.trans (HB3.out.mono (by omega))⟩

end Go.Proofs.YtjgghimjnbjlbaaGreatDoor

namespace Go.Proofs.YtjgghimjnbjlbaaGreatDoor
open Go Go.RowKit Go.Shelf Go.Lib
def kmA : Md.Mo := { vars := [⟨⟨#[120]⟩, 0, 2⟩, ⟨⟨#[121]⟩, 0, 2⟩], cons := [⟨3, 0, [], 0, 0, 0, 0, [0, 1], [], []⟩], has := false, goal := [] }
def kmB : Md.Mo := { kmA with has := true, goal := [(-1, 0)] }
set_option maxRecDepth 100000 in
theorem km_small : (Md.product kmA 100000).2 = true := by kernel_rfl
set_option maxRecDepth 100000 in
theorem km_smallB : (Md.product kmB 100000).2 = true := by kernel_rfl
set_option maxRecDepth 100000 in
theorem km_len : (allSols kmA).length = 6 := by kernel_rfl
set_option maxRecDepth 100000 in
theorem km_lenB : (allSols kmB).length = 6 := by kernel_rfl
set_option maxRecDepth 100000 in
theorem km_ansA : ansD kmA = (3, 0, [0, 1]) := by kernel_rfl
set_option maxRecDepth 100000 in
theorem km_ansB : ansD kmB = (4, -2, [2, 0]) := by kernel_rfl
def ktA : ByteArray := ⟨#[42, 32, 97, 10, 112, 111, 108, 32, 49, 10, 114, 117, 112, 32, 62, 61, 32, 48, 32, 59, 10, 100, 101, 108, 32, 105, 100, 32, 51, 32, 52, 10]⟩
def ktB : ByteArray := ⟨#[42, 32, 97, 10, 110, 111, 116, 104, 105, 110, 103, 10]⟩
set_option maxRecDepth 100000 in
theorem kt_good : (lns ktA.data.toList []).all (fun x => er x == 0) = true := by kernel_rfl
set_option maxRecDepth 100000 in
theorem kt_bad : (lns ktB.data.toList []).all (fun x => er x == 0) = false := by kernel_rfl
set_option maxRecDepth 100000 in
theorem kt_wt : wtS (lns ktA.data.toList []) 32 = #[.int .i64 4, .int .i64 32, .int .i64 2, .int .i64 2, .int .i64 2, .int .i64 10, .int .i64 0, .int .i64 0, .int .i64 0, .int .i64 1, .int .i64 1, .int .i64 0, .int .i64 1, .int .i64 1, .int .i64 0, .int .i64 0, .int .i64 0, .int .i64 0, .int .i64 0] := by kernel_rfl
end Go.Proofs.YtjgghimjnbjlbaaGreatDoor

namespace Go.Proofs.YtjgghimjnbjlbaaGreatDoor
open Go Go.RowKit Go.Shelf Go.Lib
attribute [local go_sem] Oper.semAt_some

/-- What lies in new blocks. -/
def Keeps (w : World) (L : List (Nat × Obj)) (W : World) : Prop := Below w.heap.size w W ∧ ∀ p ∈ L, W.heap[p.1]? = some p.2
theorem Keeps.step {w W W' : World} {L : List (Nat × Obj)} (h : Keeps w L W) (hb : Below W.heap.size W W') : Keeps w L W' :=
  ⟨bl_next h.1 hb, fun p hp => (hb.block _ (Array.getElem?_eq_some_iff.1 (h.2 p hp)).1).trans (h.2 p hp)⟩
theorem Keeps.alloc {w W : World} {L : List (Nat × Obj)} (h : Keeps w L W) (o : Obj) : Keeps w ((W.heap.size, o) :: L) (W.alloc o) := by
  have hb : Below W.heap.size W (W.alloc o) := (Below.refl _ _).alloc (Nat.le_refl _) _
  have h2 := h.step hb
  refine ⟨h2.1, fun p hp => ?_⟩
  rcases List.mem_cons.1 hp with rfl | hp
  · exact heap_alloc_new W o
  · exact h2.2 p hp
theorem Keeps.get {w W : World} {L : List (Nat × Obj)} (h : Keeps w L W) (i : Nat) {p : Nat × Obj} (hi : L[i]? = some p) : W.heap[p.1]? = some p.2 := h.2 p (List.mem_of_getElem? hi)
theorem at_vars {W : World} {g : Nat} (h : W.heap[g]? = some (.cells #[.string ⟨#[120]⟩, .int .i64 0, .int .i64 2, .string ⟨#[121]⟩, .int .i64 0, .int .i64 2] 49 (0, 0))) : VarsAt W (.slice (some ⟨g, 0, none⟩) 2 2) kmA.vars := by
  refine ⟨_, 2, rfl, by decide, ?_, fun _ => ⟨g, 0, rfl, (Array.getElem?_eq_some_iff.1 h).1, ?_⟩⟩
  · intro x hx
    simp only [kmA, List.mem_cons, List.not_mem_nil, or_false] at hx
    rcases hx with rfl | rfl <;> decide
  · intro j hj
    have hj : j < 2 := hj
    rcases j with _ | _ | j
    · exact ⟨cell_of h 0, cell_of h 1, cell_of h 2⟩
    · exact ⟨cell_of h 3, cell_of h 4, cell_of h 5⟩
    · omega
theorem at_con {W : World} {g x : Nat} (h : W.heap[g]? = some (.cells #[.int .i64 3, .int .i64 0, .slice none 0 0, .int .i64 0, .int .i64 0, .int .i64 0, .int .i64 0, .slice (some ⟨x, 0, none⟩) 2 2, .slice none 0 0, .slice none 0 0] 51 (0, 0))) (hx : W.heap[x]? = some (.cells #[.int .i64 0, .int .i64 1] 3 (0, 0))) : ConsAt W (.slice (some ⟨g, 0, none⟩) 1 1) kmA.cons := by
  refine ⟨_, 1, rfl, by decide, fun _ => ⟨g, 0, rfl, (Array.getElem?_eq_some_iff.1 h).1, ?_⟩⟩
  intro j hj
  have hj : j < 1 := hj
  obtain rfl : j = 0 := by omega
  refine ⟨.slice none 0 0, .slice (some ⟨x, 0, none⟩) 2 2, .slice none 0 0, .slice none 0 0, ⟨?_, ?_, ?_, ?_, ?_⟩, cell_of h 0, cell_of h 1, cell_of h 2, cell_of h 3, cell_of h 4, cell_of h 5, cell_of h 6, cell_of h 7, cell_of h 8, cell_of h 9⟩
  · exact ⟨none, 0, rfl, Nat.zero_le _, fun h => absurd h (Nat.lt_irrefl 0)⟩
  · refine ⟨_, 2, rfl, (show (2 : Nat) ≤ maxLen by decide), fun _ => ⟨x, 0, rfl, (Array.getElem?_eq_some_iff.1 hx).1, ?_⟩⟩
    intro j hj
    have hj : j < 2 := hj
    rcases j with _ | _ | j
    · exact cell_of hx 0
    · exact cell_of hx 1
    · omega
  · rintro a n cp ⟨⟩
    decide
  · exact ⟨none, 0, rfl, Nat.zero_le _, fun h => absurd h (Nat.lt_irrefl 0)⟩
  · exact ⟨none, 0, rfl, Nat.zero_le _, fun h => absurd h (Nat.lt_irrefl 0)⟩
theorem at_goal {W : World} {g : Nat} (h : W.heap[g]? = some (.cells #[.int .i64 (-1), .int .i64 0] 67 (0, 0))) : TermsAt W (.slice (some ⟨g, 0, none⟩) 1 1) kmB.goal := by
  refine ⟨_, 1, rfl, by decide, fun _ => ⟨g, 0, rfl, (Array.getElem?_eq_some_iff.1 h).1, ?_⟩⟩
  intro j hj
  have hj : j < 1 := hj
  obtain rfl : j = 0 := by omega
  exact ⟨cell_of h 0, cell_of h 1⟩
theorem at_ints {W : World} {g : Nat} (a b : Int) (h : W.heap[g]? = some (.cells #[.int .i64 a, .int .i64 b] 3 (0, 0))) : MInts W (.slice (some ⟨g, 0, none⟩) 2 2) [a, b] := by
  refine ⟨_, 2, rfl, (show (2 : Nat) ≤ maxLen by decide), fun _ => ⟨g, 0, rfl, (Array.getElem?_eq_some_iff.1 h).1, ?_⟩⟩
  intro j hj
  have hj : j < 2 := hj
  rcases j with _ | _ | j
  · exact cell_of h 0
  · exact cell_of h 1
  · omega
theorem nil_terms (W : World) : TermsAt W (.slice none 0 0) [] := ⟨none, 0, rfl, Nat.zero_le _, fun h => absurd h (Nat.lt_irrefl 0)⟩
theorem nil_ints (W : World) : MInts W (.slice none 0 0) [] := ⟨none, 0, rfl, Nat.zero_le _, fun h => absurd h (Nat.lt_irrefl 0)⟩
theorem cap22 (g : Nat) : ∀ a n cp, (Value.slice (some ⟨g, 0, none⟩) 2 2) = .slice a n cp → n ≤ cp := by rintro a n cp ⟨⟩; exact Nat.le_refl _

theorem count_km (W : World) (g c x : Nat) (h1 : W.heap[g]? = some (.cells #[.string ⟨#[120]⟩, .int .i64 0, .int .i64 2, .string ⟨#[121]⟩, .int .i64 0, .int .i64 2] 49 (0, 0))) (h2 : W.heap[c]? = some (.cells #[.int .i64 3, .int .i64 0, .slice none 0 0, .int .i64 0, .int .i64 0, .int .i64 0, .int .i64 0, .slice (some ⟨x, 0, none⟩) 2 2, .slice none 0 0, .slice none 0 0] 51 (0, 0))) (h3 : W.heap[x]? = some (.cells #[.int .i64 0, .int .i64 1] 3 (0, 0))) :
    Calls Tryz.prog 11 #[.agg #[.slice (some ⟨g, 0, none⟩) 2 2, .slice (some ⟨c, 0, none⟩) 1 1, .bool false, .slice none 0 0]] W (fun e w' => e = .returned (.tuple #[.int .i64 6, .bool true]) ∧ Below W.heap.size W w') ∧
    Calls Tryz.prog 12 #[.agg #[.slice (some ⟨g, 0, none⟩) 2 2, .slice (some ⟨c, 0, none⟩) 1 1, .bool false, .slice none 0 0]] W (fun e w' => ∃ a cp B, e = .returned (.tuple #[.agg #[.int .i64 3, .int .i64 0, .int .i64 0, .int .i64 0, .slice a 2 cp], .bool true]) ∧ Below W.heap.size W w' ∧ w'.ownsRow B 3 1 (.slice a 2 cp) 2 [.int .i64 0, .int .i64 1]) := by
  have hM : MoAt W kmA (.slice (some ⟨g, 0, none⟩) 2 2) (.slice (some ⟨c, 0, none⟩) 1 1) (.slice none 0 0) := ⟨at_vars h1, cap22 g, at_con h2 h3, nil_terms W⟩
  refine ⟨?_, ?_⟩
  · have := au_count kmA _ _ _ W hM
    rw [km_len, km_small] at this
    exact this
  · refine Calls.mono (au_answer kmA _ _ _ W hM) ?_
    rintro e w' ⟨hb, ⟨h, _⟩ | ⟨_, v, B, he, _, how⟩⟩
    · rw [km_small] at h; cases h
    · rw [km_ansA] at he how
      obtain ⟨a, cp, rfl⟩ := own_sl how
      exact ⟨a, cp, B, he, hb, how⟩
theorem goal_km (W : World) (g c x t : Nat) (h1 : W.heap[g]? = some (.cells #[.string ⟨#[120]⟩, .int .i64 0, .int .i64 2, .string ⟨#[121]⟩, .int .i64 0, .int .i64 2] 49 (0, 0))) (h2 : W.heap[c]? = some (.cells #[.int .i64 3, .int .i64 0, .slice none 0 0, .int .i64 0, .int .i64 0, .int .i64 0, .int .i64 0, .slice (some ⟨x, 0, none⟩) 2 2, .slice none 0 0, .slice none 0 0] 51 (0, 0))) (h3 : W.heap[x]? = some (.cells #[.int .i64 0, .int .i64 1] 3 (0, 0))) (h4 : W.heap[t]? = some (.cells #[.int .i64 (-1), .int .i64 0] 67 (0, 0))) :
    Calls Tryz.prog 13 #[.agg #[.slice (some ⟨g, 0, none⟩) 2 2, .slice (some ⟨c, 0, none⟩) 1 1, .bool true, .slice (some ⟨t, 0, none⟩) 1 1]] W (fun e w' => e = .returned (.tuple #[.agg #[.int .i64 6, .int .i64 0, .int .i64 0, .int .i64 6, .slice none 0 0], .bool true]) ∧ Below W.heap.size W w') ∧
    Calls Tryz.prog 12 #[.agg #[.slice (some ⟨g, 0, none⟩) 2 2, .slice (some ⟨c, 0, none⟩) 1 1, .bool true, .slice (some ⟨t, 0, none⟩) 1 1]] W (fun e w' => ∃ a cp B, e = .returned (.tuple #[.agg #[.int .i64 4, .int .i64 0, .int .i64 (-2), .int .i64 0, .slice a 2 cp], .bool true]) ∧ Below W.heap.size W w' ∧ w'.ownsRow B 3 1 (.slice a 2 cp) 2 [.int .i64 2, .int .i64 0]) := by
  have hM : MoAt W kmB (.slice (some ⟨g, 0, none⟩) 2 2) (.slice (some ⟨c, 0, none⟩) 1 1) (.slice (some ⟨t, 0, none⟩) 1 1) := ⟨at_vars h1, cap22 g, at_con h2 h3, at_goal h4⟩
  refine ⟨?_, ?_⟩
  · refine Calls.mono (au_all kmB _ _ _ W hM) ?_
    rintro e w' ⟨hb, ⟨h, _⟩ | ⟨_, he⟩⟩
    · rw [km_smallB] at h; cases h
    · rw [km_lenB] at he
      exact ⟨he, hb⟩
  · refine Calls.mono (au_answer kmB _ _ _ W hM) ?_
    rintro e w' ⟨hb, ⟨h, _⟩ | ⟨_, v, B, he, _, how⟩⟩
    · rw [km_smallB] at h; cases h
    · rw [km_ansB] at he how
      obtain ⟨a, cp, rfl⟩ := own_sl how
      exact ⟨a, cp, B, he, hb, how⟩
theorem weigh_good (W : World) (hg : Gl W) : Calls Tryz.prog 21 #[.string ktA] W fun e w' => e = .returned (.tuple #[.agg #[.int .i64 4, .int .i64 32, .int .i64 2, .int .i64 2, .int .i64 2, .int .i64 10, .int .i64 0, .int .i64 0, .int .i64 0, .int .i64 1, .int .i64 1, .int .i64 0, .int .i64 1, .int .i64 1, .int .i64 0, .int .i64 0, .int .i64 0, .int .i64 0, .int .i64 0], .nilIface]) ∧ Below W.heap.size W w' := by
  refine Calls.mono (weigh_any ktA W (by decide) hg) ?_
  rintro e w' ⟨hb, ⟨_, he⟩ | ⟨pre, x, post, f, hL, _, hx, _⟩⟩
  · refine ⟨?_, hb⟩
    have e32 : (ktA.size : Int) = 32 := by decide
    rw [e32, kt_wt] at he
    exact he
  · have := kt_good
    rw [hL] at this
    simp [hx] at this
theorem weigh_bad (W : World) (hg : Gl W) : Calls Tryz.prog 21 #[.string ktB] W fun e w' => (∃ f, e = .returned (.tuple #[.agg zW, .iface 95 (.pointer (some ⟨f, 0, none⟩))])) ∧ Below W.heap.size W w' := by
  refine Calls.mono (weigh_any ktB W (by decide) hg) ?_
  rintro e w' ⟨hb, ⟨h, _⟩ | ⟨pre, x, post, f, hL, _, hx, he, _⟩⟩
  · have h2 := kt_bad
    have : (lns ktB.data.toList []).all (fun x => er x == 0) = true := List.all_eq_true.2 fun x hx => by simp [h x hx]
    rw [this] at h2
    cases h2
  · exact ⟨⟨f, he⟩, hb⟩
end Go.Proofs.YtjgghimjnbjlbaaGreatDoor

namespace Go.Proofs.YtjgghimjnbjlbaaGreatDoor
open Go Go.RowKit Go.Shelf Go.Lib
attribute [local go_sem] Oper.semAt_some

theorem own_step {W W' : World} {B : Nat} {v : Value} {n : Nat} {xs : List Value} (h : W.ownsRow B 3 1 v n xs) (hb : Below W.heap.size W W') : W'.ownsRow B 3 1 v n xs := own_keep h fun g hg => hb.block g (own_ge h hg).2
theorem own_apart26 {W W' : World} {B p : Nat} {v : Value} {n : Nat} {xs : List Value} {c : Array Value} (h : W.ownsRow B 3 1 v n xs) (hp : W.heap[p]? = some (.cells c 26 (0, 0))) (hk : ∀ k, k ≠ p → W'.heap[k]? = W.heap[k]?) : W'.ownsRow B 3 1 v n xs := by
  refine own_keep h fun g hg => hk g ?_
  rintro rfl
  rcases h.2 with ⟨rfl, _⟩ | ⟨g', cap, cur, rfl, _, hgc, _⟩
  · cases hg
  · have : g' = g := by simpa [Value.ownBlock] using hg
    subst this
    rw [hp] at hgc
    cases hgc

def wtK : Array Value := #[.int .i64 4, .int .i64 32, .int .i64 2, .int .i64 2, .int .i64 2, .int .i64 10, .int .i64 0, .int .i64 0, .int .i64 0, .int .i64 1, .int .i64 1, .int .i64 0, .int .i64 1, .int .i64 1, .int .i64 0, .int .i64 0, .int .i64 0, .int .i64 0, .int .i64 0]
theorem weigh_goodK (W : World) (hg : Gl W) : Calls Tryz.prog 21 #[.string ktA] W fun e w' => e = .returned (.tuple #[.agg wtK, .nilIface]) ∧ Below W.heap.size W w' := weigh_good W hg
theorem row_step {w W : World} {L : List (Nat × Obj)} (h : Keeps w L W) (cs : Array Value) : Below W.heap.size W ((W.alloc (.cells zW 55)).setRow W.heap.size cs) ∧ Keeps w ((W.heap.size, .cells cs 55 (0, 0)) :: L) ((W.alloc (.cells zW 55)).setRow W.heap.size cs) := by
  have hz : (W.alloc (.cells zW 55)).heap[W.heap.size]? = some (.cells zW 55 (0, 0)) := heap_alloc_new W _
  have hb : Below W.heap.size W ((W.alloc (.cells zW 55)).setRow W.heap.size cs) := ((Below.refl _ _).alloc (Nat.le_refl _) _).trans ⟨rfl, rfl, rfl, by simp [World.setRow], fun k hk => setRow_other _ _ k _ (by omega)⟩
  have h2 := h.step hb
  refine ⟨hb, h2.1, fun p hp => ?_⟩
  rcases List.mem_cons.1 hp with rfl | hp
  · exact setRow_heap _ W.heap.size _ cs _ _ hz
  · exact h2.2 p hp

set_option maxRecDepth 20000 in
set_option maxHeartbeats 8000000 in
theorem known_any (w : World) (hg : Gl w) : Calls Tryz.prog 8 #[] w fun e w' => e = .returned (.bool true) ∧ Below w.heap.size w w' := by
  have HG : Hid (∀ W, Below w.heap.size w W → Gl W) := fun W hb => hg.next hb
  clear hg
  go_enter Tryz.func8, Tryz.ntmps8
  go_wp2_with fail
  have K0 : Keeps w [] w := ⟨Below.refl _ _, fun p hp => by cases hp⟩
  obtain ⟨V1, hV1⟩ : ∃ V, w.alloc (.cells #[.string ⟨#[120]⟩, .int .i64 0, .int .i64 2, .string ⟨#[121]⟩, .int .i64 0, .int .i64 2] 49) = V := ⟨_, rfl⟩
  have zV1 : V1.heap.size = w.heap.size + 1 := by
    have h : V1.heap.size = w.heap.size + 1 := by rw [← hV1]; exact Array.size_push _
    omega
  obtain ⟨V2, hV2⟩ : ∃ V, V1.alloc (.cells #[.int .i64 0, .int .i64 1] 3) = V := ⟨_, rfl⟩
  have zV2 : V2.heap.size = w.heap.size + 1 + 1 := by
    have h : V2.heap.size = V1.heap.size + 1 := by rw [← hV2]; exact Array.size_push _
    omega
  obtain ⟨V3, hV3⟩ : ∃ V, V2.alloc (.cells #[.int .i64 3, .int .i64 0, .slice none 0 0, .int .i64 0, .int .i64 0, .int .i64 0, .int .i64 0, .slice (some ⟨w.heap.size + 1, 0, none⟩) 2 2, .slice none 0 0, .slice none 0 0] 51) = V := ⟨_, rfl⟩
  have zV3 : V3.heap.size = w.heap.size + 1 + 1 + 1 := by
    have h : V3.heap.size = V2.heap.size + 1 := by rw [← hV3]; exact Array.size_push _
    omega
  obtain ⟨V4, hV4⟩ : ∃ V, V3.alloc (.cells #[.slice (some ⟨w.heap.size, 0, none⟩) 2 2, .slice (some ⟨w.heap.size + 1 + 1, 0, none⟩) 1 1, .bool false, .slice none 0 0] 26) = V := ⟨_, rfl⟩
  have zV4 : V4.heap.size = w.heap.size + 1 + 1 + 1 + 1 := by
    have h : V4.heap.size = V3.heap.size + 1 := by rw [← hV4]; exact Array.size_push _
    omega
  have K4 : Hid (Keeps w [(w.heap.size + 1 + 1 + 1, Obj.cells #[.slice (some ⟨w.heap.size, 0, none⟩) 2 2, .slice (some ⟨w.heap.size + 1 + 1, 0, none⟩) 1 1, .bool false, .slice none 0 0] 26 (0, 0)), (w.heap.size + 1 + 1, Obj.cells #[.int .i64 3, .int .i64 0, .slice none 0 0, .int .i64 0, .int .i64 0, .int .i64 0, .int .i64 0, .slice (some ⟨w.heap.size + 1, 0, none⟩) 2 2, .slice none 0 0, .slice none 0 0] 51 (0, 0)), (w.heap.size + 1, Obj.cells #[.int .i64 0, .int .i64 1] 3 (0, 0)), (w.heap.size, Obj.cells #[.string ⟨#[120]⟩, .int .i64 0, .int .i64 2, .string ⟨#[121]⟩, .int .i64 0, .int .i64 2] 49 (0, 0))] V4) := by
    have k := (((K0.alloc (.cells #[.string ⟨#[120]⟩, .int .i64 0, .int .i64 2, .string ⟨#[121]⟩, .int .i64 0, .int .i64 2] 49)).alloc (.cells #[.int .i64 0, .int .i64 1] 3)).alloc (.cells #[.int .i64 3, .int .i64 0, .slice none 0 0, .int .i64 0, .int .i64 0, .int .i64 0, .int .i64 0, .slice (some ⟨w.heap.size + 1, 0, none⟩) 2 2, .slice none 0 0, .slice none 0 0] 51)).alloc (.cells #[.slice (some ⟨w.heap.size, 0, none⟩) 2 2, .slice (some ⟨w.heap.size + 1 + 1, 0, none⟩) 1 1, .bool false, .slice none 0 0] 26)
    rw [hV1, hV2, hV3, hV4, zV1, zV2, zV3] at k
    exact k
  rw [hV1, hV2, hV3, hV4]
  clear K0 zV1 zV2 zV3 zV4
  have C1 := (count_km V4 _ _ _ (K4.out.get 3 rfl) (K4.out.get 1 rfl) (K4.out.get 2 rfl)).1
  refine calls_at C1 (by with_reducible rfl) (by with_reducible rfl) ?_
  rintro e u1 ⟨rfl, hb1⟩
  have K5 : Hid (Keeps w [(w.heap.size + 1 + 1 + 1, Obj.cells #[.slice (some ⟨w.heap.size, 0, none⟩) 2 2, .slice (some ⟨w.heap.size + 1 + 1, 0, none⟩) 1 1, .bool false, .slice none 0 0] 26 (0, 0)), (w.heap.size + 1 + 1, Obj.cells #[.int .i64 3, .int .i64 0, .slice none 0 0, .int .i64 0, .int .i64 0, .int .i64 0, .int .i64 0, .slice (some ⟨w.heap.size + 1, 0, none⟩) 2 2, .slice none 0 0, .slice none 0 0] 51 (0, 0)), (w.heap.size + 1, Obj.cells #[.int .i64 0, .int .i64 1] 3 (0, 0)), (w.heap.size, Obj.cells #[.string ⟨#[120]⟩, .int .i64 0, .int .i64 2, .string ⟨#[121]⟩, .int .i64 0, .int .i64 2] 49 (0, 0))] u1) := K4.out.step hb1
  clear C1 hb1 K4 hV1 hV2 hV3 hV4
  have C2 := (count_km u1 _ _ _ (K5.out.get 3 rfl) (K5.out.get 1 rfl) (K5.out.get 2 rfl)).2
  have b0 := cell_of (K5.out.get 0 rfl) 0
  have b1 := cell_of (K5.out.get 0 rfl) 1
  have b2 := cell_of (K5.out.get 0 rfl) 2
  have b3 := cell_of (K5.out.get 0 rfl) 3
  dsimp at b0 b1 b2 b3
  go_wp2_with fail
  refine calls_at C2 (by with_reducible rfl) (by with_reducible rfl) ?_
  rintro e u2 ⟨a1, c1, B1, rfl, hb2, ho⟩
  have HO1 : Hid (u2.ownsRow B1 3 1 (.slice a1 2 c1) 2 [.int .i64 0, .int .i64 1]) := ho
  have K6 : Hid (Keeps w [(w.heap.size + 1 + 1 + 1, Obj.cells #[.slice (some ⟨w.heap.size, 0, none⟩) 2 2, .slice (some ⟨w.heap.size + 1 + 1, 0, none⟩) 1 1, .bool false, .slice none 0 0] 26 (0, 0)), (w.heap.size + 1 + 1, Obj.cells #[.int .i64 3, .int .i64 0, .slice none 0 0, .int .i64 0, .int .i64 0, .int .i64 0, .int .i64 0, .slice (some ⟨w.heap.size + 1, 0, none⟩) 2 2, .slice none 0 0, .slice none 0 0] 51 (0, 0)), (w.heap.size + 1, Obj.cells #[.int .i64 0, .int .i64 1] 3 (0, 0)), (w.heap.size, Obj.cells #[.string ⟨#[120]⟩, .int .i64 0, .int .i64 2, .string ⟨#[121]⟩, .int .i64 0, .int .i64 2] 49 (0, 0))] u2) := K5.out.step hb2
  clear C2 hb2 ho K5
  clear b0 b1 b2 b3
  obtain ⟨V5, hV5⟩ : ∃ V, u2.alloc (.cells #[.int .i64 3, .int .i64 0, .int .i64 0, .int .i64 0, .slice a1 2 c1] 39) = V := ⟨_, rfl⟩
  have zV5 : V5.heap.size = u2.heap.size + 1 := by
    have h : V5.heap.size = u2.heap.size + 1 := by rw [← hV5]; exact Array.size_push _
    omega
  obtain ⟨V6, hV6⟩ : ∃ V, V5.alloc (.cells #[.int .i64 (-1), .int .i64 0] 67) = V := ⟨_, rfl⟩
  have zV6 : V6.heap.size = u2.heap.size + 2 := by
    have h : V6.heap.size = V5.heap.size + 1 := by rw [← hV6]; exact Array.size_push _
    omega
  have K8 : Hid (Keeps w [(u2.heap.size + 1, Obj.cells #[.int .i64 (-1), .int .i64 0] 67 (0, 0)), (u2.heap.size, Obj.cells #[.int .i64 3, .int .i64 0, .int .i64 0, .int .i64 0, .slice a1 2 c1] 39 (0, 0)), (w.heap.size + 1 + 1 + 1, Obj.cells #[.slice (some ⟨w.heap.size, 0, none⟩) 2 2, .slice (some ⟨w.heap.size + 1 + 1, 0, none⟩) 1 1, .bool false, .slice none 0 0] 26 (0, 0)), (w.heap.size + 1 + 1, Obj.cells #[.int .i64 3, .int .i64 0, .slice none 0 0, .int .i64 0, .int .i64 0, .int .i64 0, .int .i64 0, .slice (some ⟨w.heap.size + 1, 0, none⟩) 2 2, .slice none 0 0, .slice none 0 0] 51 (0, 0)), (w.heap.size + 1, Obj.cells #[.int .i64 0, .int .i64 1] 3 (0, 0)), (w.heap.size, Obj.cells #[.string ⟨#[120]⟩, .int .i64 0, .int .i64 2, .string ⟨#[121]⟩, .int .i64 0, .int .i64 2] 49 (0, 0))] V6) := by
    have k := (K6.out.alloc (.cells #[.int .i64 3, .int .i64 0, .int .i64 0, .int .i64 0, .slice a1 2 c1] 39)).alloc (.cells #[.int .i64 (-1), .int .i64 0] 67)
    rw [hV5, hV6, zV5] at k
    exact k
  have HO2 : Hid (V6.ownsRow B1 3 1 (.slice a1 2 c1) 2 [.int .i64 0, .int .i64 1]) := by
    show World.ownsRow _ _ _ _ _ _ _
    rw [← hV6, ← hV5]
    exact own_step (own_step HO1.out ((Below.refl _ _).alloc (Nat.le_refl _) _)) ((Below.refl _ _).alloc (Nat.le_refl _) _)
  have b0 := cell_of (K8.out.get 2 rfl) 0
  have b1 := cell_of (K8.out.get 2 rfl) 1
  have b2 := cell_of (K8.out.get 2 rfl) 2
  have b3 := cell_of (K8.out.get 2 rfl) 3
  dsimp at b0 b1 b2 b3
  have f2 := frozen_of (K8.out.get 2 rfl) 2
  have f3 := frozen_of (K8.out.get 2 rfl) 3
  obtain ⟨V7, hV7⟩ : ∃ V, (V6.setCell ⟨w.heap.size + 1 + 1 + 1, 2, none⟩ (.bool true)).setCell ⟨w.heap.size + 1 + 1 + 1, 3, none⟩ (.slice (some ⟨u2.heap.size + 1, 0, none⟩) 1 1) = V := ⟨_, rfl⟩
  have hk7 : ∀ k, k ≠ w.heap.size + 1 + 1 + 1 → V7.heap[k]? = V6.heap[k]? := fun k hk => by
    rw [← hV7, heap_setCell_other _ _ _ _ (by exact hk), heap_setCell_other _ _ _ _ (by exact hk)]
  have K9 : Hid (Keeps w [(w.heap.size + 1 + 1 + 1, Obj.cells #[.slice (some ⟨w.heap.size, 0, none⟩) 2 2, .slice (some ⟨w.heap.size + 1 + 1, 0, none⟩) 1 1, .bool true, .slice (some ⟨u2.heap.size + 1, 0, none⟩) 1 1] 26 (0, 0)), (u2.heap.size + 1, Obj.cells #[.int .i64 (-1), .int .i64 0] 67 (0, 0)), (u2.heap.size, Obj.cells #[.int .i64 3, .int .i64 0, .int .i64 0, .int .i64 0, .slice a1 2 c1] 39 (0, 0)), (w.heap.size + 1 + 1, Obj.cells #[.int .i64 3, .int .i64 0, .slice none 0 0, .int .i64 0, .int .i64 0, .int .i64 0, .int .i64 0, .slice (some ⟨w.heap.size + 1, 0, none⟩) 2 2, .slice none 0 0, .slice none 0 0] 51 (0, 0)), (w.heap.size + 1, Obj.cells #[.int .i64 0, .int .i64 1] 3 (0, 0)), (w.heap.size, Obj.cells #[.string ⟨#[120]⟩, .int .i64 0, .int .i64 2, .string ⟨#[121]⟩, .int .i64 0, .int .i64 2] 49 (0, 0))] V7) := by
    have hbx := K8.out.get 2 rfl
    have hsz2 : w.heap.size + 4 ≤ u2.heap.size := by
      have := (Array.getElem?_eq_some_iff.1 (K6.out.get 0 rfl)).1
      dsimp at this
      omega
    refine ⟨?_, ?_⟩
    · rw [← hV7]
      exact (K8.out.1.setCell (show w.heap.size ≤ w.heap.size + 1 + 1 + 1 by omega) _).setCell (show w.heap.size ≤ w.heap.size + 1 + 1 + 1 by omega) _
    · intro p hp
      simp only [List.mem_cons, List.not_mem_nil, or_false] at hp
      rcases hp with rfl | rfl | rfl | rfl | rfl | rfl
      · have := set_of (set_of hbx 2 (.bool true)) 3 (.slice (some ⟨u2.heap.size + 1, 0, none⟩) 1 1)
        show V7.heap[w.heap.size + 1 + 1 + 1]? = _
        rw [← hV7]
        simpa using this
      · exact (hk7 _ (show u2.heap.size + 1 ≠ w.heap.size + 1 + 1 + 1 by omega)).trans (K8.out.get 0 rfl)
      · exact (hk7 _ (show u2.heap.size ≠ w.heap.size + 1 + 1 + 1 by omega)).trans (K8.out.get 1 rfl)
      · exact (hk7 _ (show w.heap.size + 1 + 1 ≠ w.heap.size + 1 + 1 + 1 by omega)).trans (K8.out.get 3 rfl)
      · exact (hk7 _ (show w.heap.size + 1 ≠ w.heap.size + 1 + 1 + 1 by omega)).trans (K8.out.get 4 rfl)
      · exact (hk7 _ (show w.heap.size ≠ w.heap.size + 1 + 1 + 1 by omega)).trans (K8.out.get 5 rfl)
  have HO3 : Hid (V7.ownsRow B1 3 1 (.slice a1 2 c1) 2 [.int .i64 0, .int .i64 1]) := own_apart26 HO2.out (K8.out.get 2 rfl) hk7
  have C3 := (goal_km V7 _ _ _ _ (K9.out.get 5 rfl) (K9.out.get 3 rfl) (K9.out.get 4 rfl) (K9.out.get 1 rfl)).2
  have g0 := cell_of (K9.out.get 0 rfl) 0
  have g1 := cell_of (K9.out.get 0 rfl) 1
  have g2 := cell_of (K9.out.get 0 rfl) 2
  have g3 := cell_of (K9.out.get 0 rfl) 3
  dsimp at g0 g1 g2 g3
  clear hk7 K6 HO1 HO2
  go_wp2_with fail
  refine calls_at C3 (by with_reducible rfl) (by with_reducible rfl) ?_
  rintro e u3 ⟨a2, c2, B2, rfl, hb3, ho⟩
  have HO4 : Hid (u3.ownsRow B1 3 1 (.slice a1 2 c1) 2 [.int .i64 0, .int .i64 1]) := own_step HO3.out hb3
  have HP1 : Hid (u3.ownsRow B2 3 1 (.slice a2 2 c2) 2 [.int .i64 2, .int .i64 0]) := ho
  have K10 : Hid (Keeps w [(w.heap.size + 1 + 1 + 1, Obj.cells #[.slice (some ⟨w.heap.size, 0, none⟩) 2 2, .slice (some ⟨w.heap.size + 1 + 1, 0, none⟩) 1 1, .bool true, .slice (some ⟨u2.heap.size + 1, 0, none⟩) 1 1] 26 (0, 0)), (u2.heap.size + 1, Obj.cells #[.int .i64 (-1), .int .i64 0] 67 (0, 0)), (u2.heap.size, Obj.cells #[.int .i64 3, .int .i64 0, .int .i64 0, .int .i64 0, .slice a1 2 c1] 39 (0, 0)), (w.heap.size + 1 + 1, Obj.cells #[.int .i64 3, .int .i64 0, .slice none 0 0, .int .i64 0, .int .i64 0, .int .i64 0, .int .i64 0, .slice (some ⟨w.heap.size + 1, 0, none⟩) 2 2, .slice none 0 0, .slice none 0 0] 51 (0, 0)), (w.heap.size + 1, Obj.cells #[.int .i64 0, .int .i64 1] 3 (0, 0)), (w.heap.size, Obj.cells #[.string ⟨#[120]⟩, .int .i64 0, .int .i64 2, .string ⟨#[121]⟩, .int .i64 0, .int .i64 2] 49 (0, 0))] u3) := K9.out.step hb3
  clear C3 hb3 ho K8 K9 hV5 hV6 hV7 HO3 f2 f3
  clear b0 b1 b2 b3
  clear g0 g1 g2 g3
  obtain ⟨V8, hV8⟩ : ∃ V, u3.alloc (.cells #[.int .i64 4, .int .i64 0, .int .i64 (-2), .int .i64 0, .slice a2 2 c2] 39) = V := ⟨_, rfl⟩
  have zV8 : V8.heap.size = u3.heap.size + 1 := by
    have h : V8.heap.size = u3.heap.size + 1 := by rw [← hV8]; exact Array.size_push _
    omega
  have K11 : Hid (Keeps w [(u3.heap.size, Obj.cells #[.int .i64 4, .int .i64 0, .int .i64 (-2), .int .i64 0, .slice a2 2 c2] 39 (0, 0)), (w.heap.size + 1 + 1 + 1, Obj.cells #[.slice (some ⟨w.heap.size, 0, none⟩) 2 2, .slice (some ⟨w.heap.size + 1 + 1, 0, none⟩) 1 1, .bool true, .slice (some ⟨u2.heap.size + 1, 0, none⟩) 1 1] 26 (0, 0)), (u2.heap.size + 1, Obj.cells #[.int .i64 (-1), .int .i64 0] 67 (0, 0)), (u2.heap.size, Obj.cells #[.int .i64 3, .int .i64 0, .int .i64 0, .int .i64 0, .slice a1 2 c1] 39 (0, 0)), (w.heap.size + 1 + 1, Obj.cells #[.int .i64 3, .int .i64 0, .slice none 0 0, .int .i64 0, .int .i64 0, .int .i64 0, .int .i64 0, .slice (some ⟨w.heap.size + 1, 0, none⟩) 2 2, .slice none 0 0, .slice none 0 0] 51 (0, 0)), (w.heap.size + 1, Obj.cells #[.int .i64 0, .int .i64 1] 3 (0, 0)), (w.heap.size, Obj.cells #[.string ⟨#[120]⟩, .int .i64 0, .int .i64 2, .string ⟨#[121]⟩, .int .i64 0, .int .i64 2] 49 (0, 0))] V8) := by
    have k := K10.out.alloc (.cells #[.int .i64 4, .int .i64 0, .int .i64 (-2), .int .i64 0, .slice a2 2 c2] 39)
    rw [hV8] at k
    exact k
  have HO5 : Hid (V8.ownsRow B1 3 1 (.slice a1 2 c1) 2 [.int .i64 0, .int .i64 1]) := by
    show World.ownsRow _ _ _ _ _ _ _
    rw [← hV8]
    exact own_step HO4.out ((Below.refl _ _).alloc (Nat.le_refl _) _)
  have HP2 : Hid (V8.ownsRow B2 3 1 (.slice a2 2 c2) 2 [.int .i64 2, .int .i64 0]) := by
    show World.ownsRow _ _ _ _ _ _ _
    rw [← hV8]
    exact own_step HP1.out ((Below.refl _ _).alloc (Nat.le_refl _) _)
  have C4 := (goal_km V8 _ _ _ _ (K11.out.get 6 rfl) (K11.out.get 4 rfl) (K11.out.get 5 rfl) (K11.out.get 2 rfl)).1
  have b0 := cell_of (K11.out.get 1 rfl) 0
  have b1 := cell_of (K11.out.get 1 rfl) 1
  have b2 := cell_of (K11.out.get 1 rfl) 2
  have b3 := cell_of (K11.out.get 1 rfl) 3
  dsimp at b0 b1 b2 b3
  go_wp2_with fail
  refine calls_at C4 (by with_reducible rfl) (by with_reducible rfl) ?_
  rintro e u4 ⟨rfl, hb4⟩
  have HO6 : Hid (u4.ownsRow B1 3 1 (.slice a1 2 c1) 2 [.int .i64 0, .int .i64 1]) := own_step HO5.out hb4
  have HP3 : Hid (u4.ownsRow B2 3 1 (.slice a2 2 c2) 2 [.int .i64 2, .int .i64 0]) := own_step HP2.out hb4
  have K12 : Hid (Keeps w [(u3.heap.size, Obj.cells #[.int .i64 4, .int .i64 0, .int .i64 (-2), .int .i64 0, .slice a2 2 c2] 39 (0, 0)), (w.heap.size + 1 + 1 + 1, Obj.cells #[.slice (some ⟨w.heap.size, 0, none⟩) 2 2, .slice (some ⟨w.heap.size + 1 + 1, 0, none⟩) 1 1, .bool true, .slice (some ⟨u2.heap.size + 1, 0, none⟩) 1 1] 26 (0, 0)), (u2.heap.size + 1, Obj.cells #[.int .i64 (-1), .int .i64 0] 67 (0, 0)), (u2.heap.size, Obj.cells #[.int .i64 3, .int .i64 0, .int .i64 0, .int .i64 0, .slice a1 2 c1] 39 (0, 0)), (w.heap.size + 1 + 1, Obj.cells #[.int .i64 3, .int .i64 0, .slice none 0 0, .int .i64 0, .int .i64 0, .int .i64 0, .int .i64 0, .slice (some ⟨w.heap.size + 1, 0, none⟩) 2 2, .slice none 0 0, .slice none 0 0] 51 (0, 0)), (w.heap.size + 1, Obj.cells #[.int .i64 0, .int .i64 1] 3 (0, 0)), (w.heap.size, Obj.cells #[.string ⟨#[120]⟩, .int .i64 0, .int .i64 2, .string ⟨#[121]⟩, .int .i64 0, .int .i64 2] 49 (0, 0))] u4) := K11.out.step hb4
  clear C4 hb4 K10 K11 hV8 HO4 HO5 HP1 HP2
  clear b0 b1 b2 b3
  go_wp2_with fail
  obtain ⟨V9, hV9⟩ : ∃ V, u4.alloc (.cells #[.int .i64 6, .int .i64 0, .int .i64 0, .int .i64 6, .slice none 0 0] 39) = V := ⟨_, rfl⟩
  have zV9 : V9.heap.size = u4.heap.size + 1 := by
    have h : V9.heap.size = u4.heap.size + 1 := by rw [← hV9]; exact Array.size_push _
    omega
  rw [hV9]
  have K13 : Hid (Keeps w [(u4.heap.size, Obj.cells #[.int .i64 6, .int .i64 0, .int .i64 0, .int .i64 6, .slice none 0 0] 39 (0, 0)), (u3.heap.size, Obj.cells #[.int .i64 4, .int .i64 0, .int .i64 (-2), .int .i64 0, .slice a2 2 c2] 39 (0, 0)), (w.heap.size + 1 + 1 + 1, Obj.cells #[.slice (some ⟨w.heap.size, 0, none⟩) 2 2, .slice (some ⟨w.heap.size + 1 + 1, 0, none⟩) 1 1, .bool true, .slice (some ⟨u2.heap.size + 1, 0, none⟩) 1 1] 26 (0, 0)), (u2.heap.size + 1, Obj.cells #[.int .i64 (-1), .int .i64 0] 67 (0, 0)), (u2.heap.size, Obj.cells #[.int .i64 3, .int .i64 0, .int .i64 0, .int .i64 0, .slice a1 2 c1] 39 (0, 0)), (w.heap.size + 1 + 1, Obj.cells #[.int .i64 3, .int .i64 0, .slice none 0 0, .int .i64 0, .int .i64 0, .int .i64 0, .int .i64 0, .slice (some ⟨w.heap.size + 1, 0, none⟩) 2 2, .slice none 0 0, .slice none 0 0] 51 (0, 0)), (w.heap.size + 1, Obj.cells #[.int .i64 0, .int .i64 1] 3 (0, 0)), (w.heap.size, Obj.cells #[.string ⟨#[120]⟩, .int .i64 0, .int .i64 2, .string ⟨#[121]⟩, .int .i64 0, .int .i64 2] 49 (0, 0))] V9) := by
    have k := K12.out.alloc (.cells #[.int .i64 6, .int .i64 0, .int .i64 0, .int .i64 6, .slice none 0 0] 39)
    rw [hV9] at k
    exact k
  have hb9 : Below u4.heap.size u4 V9 := by rw [← hV9]; exact (Below.refl _ _).alloc (Nat.le_refl _) _
  have HO7 : Hid (V9.ownsRow B1 3 1 (.slice a1 2 c1) 2 [.int .i64 0, .int .i64 1]) := own_step HO6.out hb9
  have HP4 : Hid (V9.ownsRow B2 3 1 (.slice a2 2 c2) 2 [.int .i64 2, .int .i64 0]) := own_step HP3.out hb9
  have C5 := same_vd 6 0 6 _ _ [] V9 (nil_ints V9) (nil_ints V9)
  unfold vdC at C5
  clear hb9
  refine calls_at C5 (by with_reducible rfl) (by with_reducible rfl) ?_
  rintro e u5 ⟨rfl, hb5⟩
  have HO8 : Hid (u5.ownsRow B1 3 1 (.slice a1 2 c1) 2 [.int .i64 0, .int .i64 1]) := own_step HO7.out hb5
  have HP5 : Hid (u5.ownsRow B2 3 1 (.slice a2 2 c2) 2 [.int .i64 2, .int .i64 0]) := own_step HP4.out hb5
  have K14 : Hid (Keeps w [(u4.heap.size, Obj.cells #[.int .i64 6, .int .i64 0, .int .i64 0, .int .i64 6, .slice none 0 0] 39 (0, 0)), (u3.heap.size, Obj.cells #[.int .i64 4, .int .i64 0, .int .i64 (-2), .int .i64 0, .slice a2 2 c2] 39 (0, 0)), (w.heap.size + 1 + 1 + 1, Obj.cells #[.slice (some ⟨w.heap.size, 0, none⟩) 2 2, .slice (some ⟨w.heap.size + 1 + 1, 0, none⟩) 1 1, .bool true, .slice (some ⟨u2.heap.size + 1, 0, none⟩) 1 1] 26 (0, 0)), (u2.heap.size + 1, Obj.cells #[.int .i64 (-1), .int .i64 0] 67 (0, 0)), (u2.heap.size, Obj.cells #[.int .i64 3, .int .i64 0, .int .i64 0, .int .i64 0, .slice a1 2 c1] 39 (0, 0)), (w.heap.size + 1 + 1, Obj.cells #[.int .i64 3, .int .i64 0, .slice none 0 0, .int .i64 0, .int .i64 0, .int .i64 0, .int .i64 0, .slice (some ⟨w.heap.size + 1, 0, none⟩) 2 2, .slice none 0 0, .slice none 0 0] 51 (0, 0)), (w.heap.size + 1, Obj.cells #[.int .i64 0, .int .i64 1] 3 (0, 0)), (w.heap.size, Obj.cells #[.string ⟨#[120]⟩, .int .i64 0, .int .i64 2, .string ⟨#[121]⟩, .int .i64 0, .int .i64 2] 49 (0, 0))] u5) := K13.out.step hb5
  clear C5 hb5 K12 K13 hV9 HO6 HO7 HP3 HP4
  have C6 := weigh_goodK u5 (HG.out _ K14.out.1)
  unfold ktA at C6
  go_wp2_with fail
  refine calls_at C6 (by with_reducible rfl) (by with_reducible rfl) ?_
  rintro e u6 ⟨rfl, hb6⟩
  have HO9 : Hid (u6.ownsRow B1 3 1 (.slice a1 2 c1) 2 [.int .i64 0, .int .i64 1]) := own_step HO8.out hb6
  have HP6 : Hid (u6.ownsRow B2 3 1 (.slice a2 2 c2) 2 [.int .i64 2, .int .i64 0]) := own_step HP5.out hb6
  have K15 : Hid (Keeps w [(u4.heap.size, Obj.cells #[.int .i64 6, .int .i64 0, .int .i64 0, .int .i64 6, .slice none 0 0] 39 (0, 0)), (u3.heap.size, Obj.cells #[.int .i64 4, .int .i64 0, .int .i64 (-2), .int .i64 0, .slice a2 2 c2] 39 (0, 0)), (w.heap.size + 1 + 1 + 1, Obj.cells #[.slice (some ⟨w.heap.size, 0, none⟩) 2 2, .slice (some ⟨w.heap.size + 1 + 1, 0, none⟩) 1 1, .bool true, .slice (some ⟨u2.heap.size + 1, 0, none⟩) 1 1] 26 (0, 0)), (u2.heap.size + 1, Obj.cells #[.int .i64 (-1), .int .i64 0] 67 (0, 0)), (u2.heap.size, Obj.cells #[.int .i64 3, .int .i64 0, .int .i64 0, .int .i64 0, .slice a1 2 c1] 39 (0, 0)), (w.heap.size + 1 + 1, Obj.cells #[.int .i64 3, .int .i64 0, .slice none 0 0, .int .i64 0, .int .i64 0, .int .i64 0, .int .i64 0, .slice (some ⟨w.heap.size + 1, 0, none⟩) 2 2, .slice none 0 0, .slice none 0 0] 51 (0, 0)), (w.heap.size + 1, Obj.cells #[.int .i64 0, .int .i64 1] 3 (0, 0)), (w.heap.size, Obj.cells #[.string ⟨#[120]⟩, .int .i64 0, .int .i64 2, .string ⟨#[121]⟩, .int .i64 0, .int .i64 2] 49 (0, 0))] u6) := K14.out.step hb6
  clear C6 hb6 K14 HO8 HP5
  obtain ⟨Vy, hVy⟩ : ∃ V, u6.alloc (.cells #[.int .i64 0, .int .i64 0, .int .i64 0, .int .i64 0, .int .i64 0, .int .i64 0, .int .i64 0, .int .i64 0, .int .i64 0, .int .i64 0, .int .i64 0, .int .i64 0, .int .i64 0, .int .i64 0, .int .i64 0, .int .i64 0, .int .i64 0, .int .i64 0, .int .i64 0] 55) = V := ⟨_, rfl⟩
  have HY : Hid (Vy.heap[u6.heap.size]? = some (.cells zW 55 (0, 0))) := by show _ = _; rw [← hVy]; exact heap_alloc_new u6 _
  have hR := row_step K15.out wtK
  have hVy' : u6.alloc (.cells zW 55) = Vy := hVy
  rw [hVy'] at hR
  have HR : Hid _ := hR
  clear hR hVy'
  go_wp2_with (refine wpList_store_row rfl 55 (.tmp 10) (.tmp 55) rfl u6.heap.size wtK (by rfl) (by rfl) 55 zW HY.out infW rfl (by simp [wtK, Value.oneCell']) ?_)
  have hR := HR.out
  obtain ⟨V10, hV10⟩ : ∃ V, Vy.setRow u6.heap.size wtK = V := ⟨_, rfl⟩
  rw [hV10] at hR ⊢
  obtain ⟨hb10, k16⟩ := hR
  have K16 : Hid (Keeps w [(u6.heap.size, Obj.cells wtK 55 (0, 0)), (u4.heap.size, Obj.cells #[.int .i64 6, .int .i64 0, .int .i64 0, .int .i64 6, .slice none 0 0] 39 (0, 0)), (u3.heap.size, Obj.cells #[.int .i64 4, .int .i64 0, .int .i64 (-2), .int .i64 0, .slice a2 2 c2] 39 (0, 0)), (w.heap.size + 1 + 1 + 1, Obj.cells #[.slice (some ⟨w.heap.size, 0, none⟩) 2 2, .slice (some ⟨w.heap.size + 1 + 1, 0, none⟩) 1 1, .bool true, .slice (some ⟨u2.heap.size + 1, 0, none⟩) 1 1] 26 (0, 0)), (u2.heap.size + 1, Obj.cells #[.int .i64 (-1), .int .i64 0] 67 (0, 0)), (u2.heap.size, Obj.cells #[.int .i64 3, .int .i64 0, .int .i64 0, .int .i64 0, .slice a1 2 c1] 39 (0, 0)), (w.heap.size + 1 + 1, Obj.cells #[.int .i64 3, .int .i64 0, .slice none 0 0, .int .i64 0, .int .i64 0, .int .i64 0, .int .i64 0, .slice (some ⟨w.heap.size + 1, 0, none⟩) 2 2, .slice none 0 0, .slice none 0 0] 51 (0, 0)), (w.heap.size + 1, Obj.cells #[.int .i64 0, .int .i64 1] 3 (0, 0)), (w.heap.size, Obj.cells #[.string ⟨#[120]⟩, .int .i64 0, .int .i64 2, .string ⟨#[121]⟩, .int .i64 0, .int .i64 2] 49 (0, 0))] V10) := k16
  clear k16 HR hVy HY
  have HO10 : Hid (V10.ownsRow B1 3 1 (.slice a1 2 c1) 2 [.int .i64 0, .int .i64 1]) := own_step HO9.out hb10
  have HP7 : Hid (V10.ownsRow B2 3 1 (.slice a2 2 c2) 2 [.int .i64 2, .int .i64 0]) := own_step HP6.out hb10
  have C7 := weigh_bad V10 (HG.out _ K16.out.1)
  unfold ktB at C7
  clear hb10
  refine calls_at C7 (by with_reducible rfl) (by with_reducible rfl) ?_
  rintro e u7 ⟨⟨fp, rfl⟩, hb7⟩
  have HO11 : Hid (u7.ownsRow B1 3 1 (.slice a1 2 c1) 2 [.int .i64 0, .int .i64 1]) := own_step HO10.out hb7
  have HP8 : Hid (u7.ownsRow B2 3 1 (.slice a2 2 c2) 2 [.int .i64 2, .int .i64 0]) := own_step HP7.out hb7
  have K17 : Hid (Keeps w [(u6.heap.size, Obj.cells wtK 55 (0, 0)), (u4.heap.size, Obj.cells #[.int .i64 6, .int .i64 0, .int .i64 0, .int .i64 6, .slice none 0 0] 39 (0, 0)), (u3.heap.size, Obj.cells #[.int .i64 4, .int .i64 0, .int .i64 (-2), .int .i64 0, .slice a2 2 c2] 39 (0, 0)), (w.heap.size + 1 + 1 + 1, Obj.cells #[.slice (some ⟨w.heap.size, 0, none⟩) 2 2, .slice (some ⟨w.heap.size + 1 + 1, 0, none⟩) 1 1, .bool true, .slice (some ⟨u2.heap.size + 1, 0, none⟩) 1 1] 26 (0, 0)), (u2.heap.size + 1, Obj.cells #[.int .i64 (-1), .int .i64 0] 67 (0, 0)), (u2.heap.size, Obj.cells #[.int .i64 3, .int .i64 0, .int .i64 0, .int .i64 0, .slice a1 2 c1] 39 (0, 0)), (w.heap.size + 1 + 1, Obj.cells #[.int .i64 3, .int .i64 0, .slice none 0 0, .int .i64 0, .int .i64 0, .int .i64 0, .int .i64 0, .slice (some ⟨w.heap.size + 1, 0, none⟩) 2 2, .slice none 0 0, .slice none 0 0] 51 (0, 0)), (w.heap.size + 1, Obj.cells #[.int .i64 0, .int .i64 1] 3 (0, 0)), (w.heap.size, Obj.cells #[.string ⟨#[120]⟩, .int .i64 0, .int .i64 2, .string ⟨#[121]⟩, .int .i64 0, .int .i64 2] 49 (0, 0))] u7) := K16.out.step hb7
  clear C7 hb7 K15 K16 HO9 HO10 HP6 HP7 hV10
  obtain ⟨Vx, hVx⟩ : ∃ V, u7.alloc (.cells #[.int .i64 0, .int .i64 0, .int .i64 0, .int .i64 0, .int .i64 0, .int .i64 0, .int .i64 0, .int .i64 0, .int .i64 0, .int .i64 0, .int .i64 0, .int .i64 0, .int .i64 0, .int .i64 0, .int .i64 0, .int .i64 0, .int .i64 0, .int .i64 0, .int .i64 0] 55) = V := ⟨_, rfl⟩
  have HX : Hid (Vx.heap[u7.heap.size]? = some (.cells zW 55 (0, 0))) := by show _ = _; rw [← hVx]; exact heap_alloc_new u7 _
  have hR := row_step K17.out zW
  have hVx' : u7.alloc (.cells zW 55) = Vx := hVx
  rw [hVx'] at hR
  obtain ⟨V11, hV11⟩ : ∃ V, Vx.setRow u7.heap.size zW = V := ⟨_, rfl⟩
  rw [hV11] at hR
  have zV11 : V11.heap.size = u7.heap.size + 1 := by
    have h1 : V11.heap.size = Vx.heap.size := by rw [← hV11]; simp [World.setRow]
    have h2 : Vx.heap.size = u7.heap.size + 1 := by rw [← hVx]; exact Array.size_push _
    omega
  have hb11 := hR.1
  have K18 : Hid (Keeps w [(u6.heap.size, Obj.cells wtK 55 (0, 0)), (u4.heap.size, Obj.cells #[.int .i64 6, .int .i64 0, .int .i64 0, .int .i64 6, .slice none 0 0] 39 (0, 0)), (u3.heap.size, Obj.cells #[.int .i64 4, .int .i64 0, .int .i64 (-2), .int .i64 0, .slice a2 2 c2] 39 (0, 0)), (w.heap.size + 1 + 1 + 1, Obj.cells #[.slice (some ⟨w.heap.size, 0, none⟩) 2 2, .slice (some ⟨w.heap.size + 1 + 1, 0, none⟩) 1 1, .bool true, .slice (some ⟨u2.heap.size + 1, 0, none⟩) 1 1] 26 (0, 0)), (u2.heap.size + 1, Obj.cells #[.int .i64 (-1), .int .i64 0] 67 (0, 0)), (u2.heap.size, Obj.cells #[.int .i64 3, .int .i64 0, .int .i64 0, .int .i64 0, .slice a1 2 c1] 39 (0, 0)), (w.heap.size + 1 + 1, Obj.cells #[.int .i64 3, .int .i64 0, .slice none 0 0, .int .i64 0, .int .i64 0, .int .i64 0, .int .i64 0, .slice (some ⟨w.heap.size + 1, 0, none⟩) 2 2, .slice none 0 0, .slice none 0 0] 51 (0, 0)), (w.heap.size + 1, Obj.cells #[.int .i64 0, .int .i64 1] 3 (0, 0)), (w.heap.size, Obj.cells #[.string ⟨#[120]⟩, .int .i64 0, .int .i64 2, .string ⟨#[121]⟩, .int .i64 0, .int .i64 2] 49 (0, 0))] V11) := K17.out.step hb11
  clear hVx' hR
  obtain ⟨V12, hV12⟩ : ∃ V, V11.alloc (.cells #[.int .i64 0, .int .i64 1] 3) = V := ⟨_, rfl⟩
  have zV12 : V12.heap.size = u7.heap.size + 2 := by
    have h : V12.heap.size = V11.heap.size + 1 := by rw [← hV12]; exact Array.size_push _
    omega
  have hb12 : Below V11.heap.size V11 V12 := by rw [← hV12]; exact (Below.refl _ _).alloc (Nat.le_refl _) _
  have K19 : Hid (Keeps w [(u6.heap.size, Obj.cells wtK 55 (0, 0)), (u4.heap.size, Obj.cells #[.int .i64 6, .int .i64 0, .int .i64 0, .int .i64 6, .slice none 0 0] 39 (0, 0)), (u3.heap.size, Obj.cells #[.int .i64 4, .int .i64 0, .int .i64 (-2), .int .i64 0, .slice a2 2 c2] 39 (0, 0)), (w.heap.size + 1 + 1 + 1, Obj.cells #[.slice (some ⟨w.heap.size, 0, none⟩) 2 2, .slice (some ⟨w.heap.size + 1 + 1, 0, none⟩) 1 1, .bool true, .slice (some ⟨u2.heap.size + 1, 0, none⟩) 1 1] 26 (0, 0)), (u2.heap.size + 1, Obj.cells #[.int .i64 (-1), .int .i64 0] 67 (0, 0)), (u2.heap.size, Obj.cells #[.int .i64 3, .int .i64 0, .int .i64 0, .int .i64 0, .slice a1 2 c1] 39 (0, 0)), (w.heap.size + 1 + 1, Obj.cells #[.int .i64 3, .int .i64 0, .slice none 0 0, .int .i64 0, .int .i64 0, .int .i64 0, .int .i64 0, .slice (some ⟨w.heap.size + 1, 0, none⟩) 2 2, .slice none 0 0, .slice none 0 0] 51 (0, 0)), (w.heap.size + 1, Obj.cells #[.int .i64 0, .int .i64 1] 3 (0, 0)), (w.heap.size, Obj.cells #[.string ⟨#[120]⟩, .int .i64 0, .int .i64 2, .string ⟨#[121]⟩, .int .i64 0, .int .i64 2] 49 (0, 0))] V12) := K18.out.step hb12
  have HO13 : Hid (V12.ownsRow B1 3 1 (.slice a1 2 c1) 2 [.int .i64 0, .int .i64 1]) := own_step (own_step HO11.out hb11) hb12
  have HP10 : Hid (V12.ownsRow B2 3 1 (.slice a2 2 c2) 2 [.int .i64 2, .int .i64 0]) := own_step (own_step HP8.out hb11) hb12
  have gi12 : V12.heap[u7.heap.size + 1]? = some (.cells #[.int .i64 0, .int .i64 1] 3 (0, 0)) := by rw [← hV12, ← zV11]; exact heap_alloc_new V11 _
  have C8 := same_vd 3 0 0 _ _ [0, 1] V12 (own_mints (x := [0, 1]) HO13.out) (at_ints 0 1 gi12)
  unfold vdC at C8
  have b0 := cell_of (K18.out.get 5 rfl) 0
  have b1 := cell_of (K18.out.get 5 rfl) 1
  have b2 := cell_of (K18.out.get 5 rfl) 2
  have b3 := cell_of (K18.out.get 5 rfl) 3
  have b4 := cell_of (K18.out.get 5 rfl) 4
  dsimp at b0 b1 b2 b3 b4
  clear hb11 hb12 gi12
  go_wp2_with (refine wpList_store_row rfl 55 (.tmp 12) (.tmp 59) rfl u7.heap.size zW (by rfl) (by rfl) 55 zW HX.out infW rfl (by simp [zW, Value.oneCell']) ?_; rw [hV11])
  refine calls_at C8 (by with_reducible rfl) (by with_reducible rfl) ?_
  rintro e u8 ⟨rfl, hb8⟩
  have HP11 : Hid (u8.ownsRow B2 3 1 (.slice a2 2 c2) 2 [.int .i64 2, .int .i64 0]) := own_step HP10.out hb8
  have K20 : Hid (Keeps w [(u6.heap.size, Obj.cells wtK 55 (0, 0)), (u4.heap.size, Obj.cells #[.int .i64 6, .int .i64 0, .int .i64 0, .int .i64 6, .slice none 0 0] 39 (0, 0)), (u3.heap.size, Obj.cells #[.int .i64 4, .int .i64 0, .int .i64 (-2), .int .i64 0, .slice a2 2 c2] 39 (0, 0)), (w.heap.size + 1 + 1 + 1, Obj.cells #[.slice (some ⟨w.heap.size, 0, none⟩) 2 2, .slice (some ⟨w.heap.size + 1 + 1, 0, none⟩) 1 1, .bool true, .slice (some ⟨u2.heap.size + 1, 0, none⟩) 1 1] 26 (0, 0)), (u2.heap.size + 1, Obj.cells #[.int .i64 (-1), .int .i64 0] 67 (0, 0)), (u2.heap.size, Obj.cells #[.int .i64 3, .int .i64 0, .int .i64 0, .int .i64 0, .slice a1 2 c1] 39 (0, 0)), (w.heap.size + 1 + 1, Obj.cells #[.int .i64 3, .int .i64 0, .slice none 0 0, .int .i64 0, .int .i64 0, .int .i64 0, .int .i64 0, .slice (some ⟨w.heap.size + 1, 0, none⟩) 2 2, .slice none 0 0, .slice none 0 0] 51 (0, 0)), (w.heap.size + 1, Obj.cells #[.int .i64 0, .int .i64 1] 3 (0, 0)), (w.heap.size, Obj.cells #[.string ⟨#[120]⟩, .int .i64 0, .int .i64 2, .string ⟨#[121]⟩, .int .i64 0, .int .i64 2] 49 (0, 0))] u8) := K19.out.step hb8
  clear C8 hb8 K17 K18 K19 HO11 HO13 HP8 HP10 hV11 hV12 hVx HX
  clear b0 b1 b2 b3 b4
  obtain ⟨V13, hV13⟩ : ∃ V, u8.alloc (.cells #[.int .i64 2, .int .i64 0] 3) = V := ⟨_, rfl⟩
  have zV13 : V13.heap.size = u8.heap.size + 1 := by
    have h : V13.heap.size = u8.heap.size + 1 := by rw [← hV13]; exact Array.size_push _
    omega
  have hb13 : Below u8.heap.size u8 V13 := by rw [← hV13]; exact (Below.refl _ _).alloc (Nat.le_refl _) _
  have K21 : Hid (Keeps w [(u6.heap.size, Obj.cells wtK 55 (0, 0)), (u4.heap.size, Obj.cells #[.int .i64 6, .int .i64 0, .int .i64 0, .int .i64 6, .slice none 0 0] 39 (0, 0)), (u3.heap.size, Obj.cells #[.int .i64 4, .int .i64 0, .int .i64 (-2), .int .i64 0, .slice a2 2 c2] 39 (0, 0)), (w.heap.size + 1 + 1 + 1, Obj.cells #[.slice (some ⟨w.heap.size, 0, none⟩) 2 2, .slice (some ⟨w.heap.size + 1 + 1, 0, none⟩) 1 1, .bool true, .slice (some ⟨u2.heap.size + 1, 0, none⟩) 1 1] 26 (0, 0)), (u2.heap.size + 1, Obj.cells #[.int .i64 (-1), .int .i64 0] 67 (0, 0)), (u2.heap.size, Obj.cells #[.int .i64 3, .int .i64 0, .int .i64 0, .int .i64 0, .slice a1 2 c1] 39 (0, 0)), (w.heap.size + 1 + 1, Obj.cells #[.int .i64 3, .int .i64 0, .slice none 0 0, .int .i64 0, .int .i64 0, .int .i64 0, .int .i64 0, .slice (some ⟨w.heap.size + 1, 0, none⟩) 2 2, .slice none 0 0, .slice none 0 0] 51 (0, 0)), (w.heap.size + 1, Obj.cells #[.int .i64 0, .int .i64 1] 3 (0, 0)), (w.heap.size, Obj.cells #[.string ⟨#[120]⟩, .int .i64 0, .int .i64 2, .string ⟨#[121]⟩, .int .i64 0, .int .i64 2] 49 (0, 0))] V13) := K20.out.step hb13
  have gi13 : V13.heap[u8.heap.size]? = some (.cells #[.int .i64 2, .int .i64 0] 3 (0, 0)) := by rw [← hV13]; exact heap_alloc_new u8 _
  have C9 := same_vd 4 (-2) 0 _ _ [2, 0] V13 (own_mints (x := [2, 0]) (own_step HP11.out hb13)) (at_ints 2 0 gi13)
  unfold vdC at C9
  have b0 := cell_of (K20.out.get 2 rfl) 0
  have b1 := cell_of (K20.out.get 2 rfl) 1
  have b2 := cell_of (K20.out.get 2 rfl) 2
  have b3 := cell_of (K20.out.get 2 rfl) 3
  have b4 := cell_of (K20.out.get 2 rfl) 4
  dsimp at b0 b1 b2 b3 b4
  clear hb13 gi13
  go_wp2_with fail
  refine calls_at C9 (by with_reducible rfl) (by with_reducible rfl) ?_
  rintro e u9 ⟨rfl, hb9⟩
  have K22 : Hid (Keeps w [(u6.heap.size, Obj.cells wtK 55 (0, 0)), (u4.heap.size, Obj.cells #[.int .i64 6, .int .i64 0, .int .i64 0, .int .i64 6, .slice none 0 0] 39 (0, 0)), (u3.heap.size, Obj.cells #[.int .i64 4, .int .i64 0, .int .i64 (-2), .int .i64 0, .slice a2 2 c2] 39 (0, 0)), (w.heap.size + 1 + 1 + 1, Obj.cells #[.slice (some ⟨w.heap.size, 0, none⟩) 2 2, .slice (some ⟨w.heap.size + 1 + 1, 0, none⟩) 1 1, .bool true, .slice (some ⟨u2.heap.size + 1, 0, none⟩) 1 1] 26 (0, 0)), (u2.heap.size + 1, Obj.cells #[.int .i64 (-1), .int .i64 0] 67 (0, 0)), (u2.heap.size, Obj.cells #[.int .i64 3, .int .i64 0, .int .i64 0, .int .i64 0, .slice a1 2 c1] 39 (0, 0)), (w.heap.size + 1 + 1, Obj.cells #[.int .i64 3, .int .i64 0, .slice none 0 0, .int .i64 0, .int .i64 0, .int .i64 0, .int .i64 0, .slice (some ⟨w.heap.size + 1, 0, none⟩) 2 2, .slice none 0 0, .slice none 0 0] 51 (0, 0)), (w.heap.size + 1, Obj.cells #[.int .i64 0, .int .i64 1] 3 (0, 0)), (w.heap.size, Obj.cells #[.string ⟨#[120]⟩, .int .i64 0, .int .i64 2, .string ⟨#[121]⟩, .int .i64 0, .int .i64 2] 49 (0, 0))] u9) := K21.out.step hb9
  clear C9 hb9 K20 K21 HP11 hV13
  clear b0 b1 b2 b3 b4
  have b0 := cell_of (K22.out.get 0 rfl) 0
  have b1 := cell_of (K22.out.get 0 rfl) 1
  have b2 := cell_of (K22.out.get 0 rfl) 2
  have b3 := cell_of (K22.out.get 0 rfl) 3
  have b4 := cell_of (K22.out.get 0 rfl) 4
  have b5 := cell_of (K22.out.get 0 rfl) 5
  dsimp [wtK] at b0 b1 b2 b3 b4 b5
  go_wp2_with fail
  go_ret
  exact ⟨rfl, K22.out.1⟩

end Go.Proofs.YtjgghimjnbjlbaaGreatDoor

namespace Go.Proofs.YtjgghimjnbjlbaaGreatDoor
open Go Go.RowKit
attribute [local go_sem] Oper.semAt_some

theorem wtC_get (c : Nat → Int) (n y r : Int) (i : Nat) (h : i < 13) : (wtC c n y r)[6 + i]? = some (.int .i64 (c i)) := by
  unfold wtC
  match i, h with
  | 0, _ => rfl
  | 1, _ => rfl
  | 2, _ => rfl
  | 3, _ => rfl
  | 4, _ => rfl
  | 5, _ => rfl
  | 6, _ => rfl
  | 7, _ => rfl
  | 8, _ => rfl
  | 9, _ => rfl
  | 10, _ => rfl
  | 11, _ => rfl
  | 12, _ => rfl
  | n + 13, h => omega
/-- A weight in a box. -/
def WtAt (w : World) (b : Nat) (c : Nat → Int) (n y r : Int) : Prop := w.heap[b]? = some (.cells (wtC c n y r) 55 (0, 0))
theorem WtAt.kind {w : World} {b : Nat} {c : Nat → Int} {n y r : Int} (h : WtAt w b c n y r) (i : Nat) (hi : i < 13) : w.cell? ⟨b, 6 + i, none⟩ = some (.int .i64 (c i)) := (cell_of h (6 + i)).trans (wtC_get c n y r i hi)
theorem WtAt.below {w w' : World} {b : Nat} {c : Nat → Int} {n y r : Int} (h : WtAt w b c n y r) (hb : Below w.heap.size w w') : WtAt w' b c n y r := (hb.block b (Array.getElem?_eq_some_iff.1 h).1).trans h
/-- A weight that is put into a new box. -/
theorem box_step (w : World) (cs : Array Value) (V : World) (hV : w.alloc (.cells #[.int .i64 0, .int .i64 0, .int .i64 0, .int .i64 0, .int .i64 0, .int .i64 0, .int .i64 0, .int .i64 0, .int .i64 0, .int .i64 0, .int .i64 0, .int .i64 0, .int .i64 0, .int .i64 0, .int .i64 0, .int .i64 0, .int .i64 0, .int .i64 0, .int .i64 0] 55) = V) : V.heap[w.heap.size]? = some (.cells zW 55 (0, 0)) ∧ (V.setRow w.heap.size cs).heap[w.heap.size]? = some (.cells cs 55 (0, 0)) ∧ Below w.heap.size w (V.setRow w.heap.size cs) := by
  have h0 : V.heap[w.heap.size]? = some (.cells zW 55 (0, 0)) := by rw [← hV]; exact heap_alloc_new w _
  have hb : Below w.heap.size w V := by rw [← hV]; exact (Below.refl _ _).alloc (Nat.le_refl _) _
  exact ⟨h0, setRow_heap V _ _ cs _ _ h0, hb.trans ⟨rfl, rfl, rfl, by simp [World.setRow], fun k hk => setRow_other V _ k _ (by omega)⟩⟩
theorem wt_is (L : List (List UInt8)) (y : Int) (h : L.length ≤ 1000000) : ∃ r, wtS L y = wtC (scS L) L.length y r := ⟨_, by unfold wtS; rw [sum_sc L h]⟩
theorem not_last {s : ByteArray} {k : Nat} (hk : s.size = k + 1) (h : k < s.size) (hc : ((s[k].toNat : Int) == 10) = false) : lns (s.data.toList ++ [10]) [] = lns s.data.toList [] ∧ ended (s.data.toList ++ [10]) := by
  have hl : s.data.toList.length = k + 1 := by rw [Array.length_toList]; exact hk
  have hg : s.data.toList.getLast? = some s[k] := by
    rw [List.getLast?_eq_getElem?, hl, Nat.add_sub_cancel, List.getElem?_eq_getElem (by omega)]
    rfl
  refine ⟨lns_end _ _ (fun e => by rw [e] at hl; cases hl) fun e => ?_, .inr (by rw [List.getLast?_append]; rfl)⟩
  rw [hg] at e
  rw [Option.some.inj e] at hc
  exact absurd hc (by decide)
theorem is_last {s : ByteArray} {k : Nat} (hk : s.size = k + 1) (h : k < s.size) (hc : ((s[k].toNat : Int) == 10) = true) : ended s.data.toList := by
  have hl : s.data.toList.length = k + 1 := by rw [Array.length_toList]; exact hk
  refine .inr ?_
  rw [List.getLast?_eq_getElem?, hl, Nat.add_sub_cancel, List.getElem?_eq_getElem (by omega)]
  congr 1
  have h10 : (s[k].toNat : Int) = 10 := by simpa using hc
  have h' : s[k].toNat = 10 := by omega
  exact UInt8.toNat_inj.1 h'
theorem no_ten {t : ByteArray} (h : ∀ j, (hj : j < t.size) → ((t[j].toNat : Int) == 10) = false) : (10 : UInt8) ∉ t.data.toList := by
  intro hm
  obtain ⟨j, hj, e⟩ := List.getElem_of_mem hm
  have hj' : j < t.size := by rw [Array.length_toList] at hj; exact hj
  have := h j hj'
  have e' : t[j] = 10 := e
  rw [e'] at this
  exact absurd this (by decide)
theorem two_sizes {s t : ByteArray} (hs0 : s.size ≤ 140737488355328) (ht0 : t.size ≤ 140737488355328) : wrap64 ((s.size : Int) + (t.size : Int)) = (s.size : Int) + (t.size : Int) := by unfold wrap64; omega
theorem ended_log (X t : ByteArray) (s : ByteArray) (h1 : lns X.data.toList [] = lns s.data.toList []) (h2 : ended X.data.toList) (ht : (10 : UInt8) ∉ t.data.toList) : lns (X ++ t ++ ⟨#[10]⟩).data.toList [] = lns s.data.toList [] ++ [t.data.toList] := by
  have : (X ++ t ++ ⟨#[10]⟩).data.toList = X.data.toList ++ (t.data.toList ++ [10]) := by simp [ByteArray.data_append]
  rw [this, lns_more _ _ h2 ht, h1]

def LogX (L : List (List UInt8)) (X : ByteArray) : Prop := lns X.data.toList [] = L ∧ ended X.data.toList ∧ X.size ≤ 100001
set_option maxRecDepth 100000 in
set_option maxHeartbeats 8000000 in
theorem lines_any (s t : ByteArray) (w : World) (hg : Gl w) (hs0 : s.size ≤ 140737488355328) (ht0 : t.size ≤ 140737488355328) : Calls Tryz.prog 6 #[.string s, .string t] w fun e w' => e = .returned (.bool true) ∧ Below w.heap.size w w' := by
  have hwr := two_sizes hs0 ht0
  by_cases hs : (100000 : Int) < (s.size : Int) + (t.size : Int)
  · clear hs0 ht0 hg
    go_enter Tryz.func6, Tryz.ntmps6
    go_wp2_with fail
    go_ret
    exact ⟨rfl, Below.refl _ _⟩
  have hsz : s.size ≤ 100000 := by omega
  have htz : t.size ≤ 100000 := by omega
  have HSz : Hid (s.size ≤ 100000 ∧ t.size ≤ 100000) := ⟨hsz, htz⟩
  have HG : Hid (∀ W, Below w.heap.size w W → Gl W) := fun W hb => hg.next hb
  have HK : Hid (Calls Tryz.prog 8 #[] w fun e w' => e = .returned (.bool true) ∧ Below w.heap.size w w') := known_any w hg
  have hc := lns_count s.data.toList []
  have hln : s.data.toList.length = s.size := by show s.data.toList.length = s.data.size; exact Array.length_toList
  have HLn : Hid (∀ w', Calls Tryz.prog 22 #[.string s] w' (LnOut s w')) := fun w' => progLines_any s w' (by omega)
  unfold LnOut at HLn
  have HWg : Hid (∀ W, Gl W → Calls Tryz.prog 21 #[.string s] W (WgO (lns s.data.toList []) s.size W)) := fun W h => weigh_any s W (by omega) h
  obtain ⟨L, hL⟩ : ∃ L, lns s.data.toList [] = L := ⟨_, rfl⟩
  have HL : Hid (lns s.data.toList [] = L) := hL
  rw [hL] at hc HLn HWg
  have HN : Hid (L.length ≤ 100001) := by show _ ≤ _; omega
  clear hL hc hln hs0 ht0 hsz htz hg
  go_enter Tryz.func6, Tryz.ntmps6
  go_wp2_with fail
  refine calls_at HK.out (by with_reducible rfl) (by with_reducible rfl) ?_
  rintro e w1 ⟨rfl, hb1⟩
  have H1 : Hid (Below w.heap.size w w1) := hb1
  clear hb1 HK hwr hs
  go_wp2_with fail
  refine calls_at (HWg.out w1 (HG.out w1 H1.out)) (by with_reducible rfl) (by with_reducible rfl) ?_
  intro e w2 h2
  have hb2 := h2.1
  have H2 : Hid (Below w.heap.size w w2) := bl_next H1.out hb2
  rcases h2.2 with ⟨hE, rfl⟩ | ⟨pre, x, post, f, hLe, hp, hx, rfl, hf⟩
  rotate_left
  · clear h2 hb2 hLe hp hx hf HWg HLn HG
    obtain ⟨V, hV⟩ : ∃ V, w2.alloc (.cells #[.int .i64 0, .int .i64 0, .int .i64 0, .int .i64 0, .int .i64 0, .int .i64 0, .int .i64 0, .int .i64 0, .int .i64 0, .int .i64 0, .int .i64 0, .int .i64 0, .int .i64 0, .int .i64 0, .int .i64 0, .int .i64 0, .int .i64 0, .int .i64 0, .int .i64 0] 55) = V := ⟨_, rfl⟩
    have HX := box_step w2 zW V hV
    have HX1 : Hid (V.heap[w2.heap.size]? = some (.cells zW 55 (0, 0))) := HX.1
    have HX2 : Hid (Below w2.heap.size w2 (V.setRow w2.heap.size zW)) := HX.2.2
    clear HX
    go_wp2_with (refine wpList_store_row rfl 55 (.tmp 5) (.tmp 23) rfl w2.heap.size zW (by rfl) (by rfl) 55 zW HX1.out infW rfl (by simp [zW, Value.oneCell']) ?_)
    go_ret
    exact ⟨rfl, bl_next H2.out HX2.out⟩
  obtain ⟨r, hr⟩ := wt_is L s.size (by have := HN.out; omega)
  obtain ⟨c, hcc⟩ : ∃ c, scS L = c := ⟨_, rfl⟩
  have HC : Hid (scS L = c) := hcc
  rw [hr, hcc]
  have HSm : Hid (sumW c 13 = (L.length : Int)) := by rw [← hcc]; exact sum_sc L (by have := HN.out; omega)
  clear h2 hb2 hE hr hcc
  obtain ⟨V, hV⟩ : ∃ V, w2.alloc (.cells #[.int .i64 0, .int .i64 0, .int .i64 0, .int .i64 0, .int .i64 0, .int .i64 0, .int .i64 0, .int .i64 0, .int .i64 0, .int .i64 0, .int .i64 0, .int .i64 0, .int .i64 0, .int .i64 0, .int .i64 0, .int .i64 0, .int .i64 0, .int .i64 0, .int .i64 0] 55) = V := ⟨_, rfl⟩
  have HX := box_step w2 (wtC c L.length s.size r) V hV
  obtain ⟨V1, hV1⟩ : ∃ V1, V.setRow w2.heap.size (wtC c L.length s.size r) = V1 := ⟨_, rfl⟩
  rw [hV1] at HX
  have HX1 : Hid (V.heap[w2.heap.size]? = some (.cells zW 55 (0, 0))) := HX.1
  have HA0 : Hid (Below w.heap.size w V1 ∧ WtAt V1 w2.heap.size c L.length s.size r) := ⟨bl_next H2.out HX.2.2, HX.2.1⟩
  have HP0 : Hid (w.heap.size ≤ w2.heap.size) := H2.out.size
  clear HX HWg H1 H2
  go_wp2_with (refine wpList_store_row rfl 55 (.tmp 5) (.tmp 23) rfl w2.heap.size (wtC c L.length s.size r) (by rfl) (by rfl) 55 zW HX1.out infW rfl (by simp [wtC, Value.oneCell']) ?_; rw [hV1])
  clear HX1 hV hV1
  obtain ⟨p, hp⟩ : ∃ p, w2.heap.size = p := ⟨_, rfl⟩
  rw [hp] at HA0 HP0 ⊢
  clear hp
  go_loopw [7, 8] (fun nv iv wr => ∃ i : Nat, iv = .int .i64 (i : Int) ∧ i ≤ 13 ∧ Hid (nv = .int .i64 (sumW c i)) ∧ Hid (Below w.heap.size w wr ∧ WtAt wr p c L.length s.size r)) (fun _ iv _ => 13 - (intOf iv).toNat)
  case atStart => exact ⟨0, rfl, Nat.zero_le _, rfl, HA0.out⟩
  case round =>
  obtain ⟨i, rfl, hi, HNv, HA⟩ := hrel
  clear HA0
  obtain ⟨n, hn⟩ : ∃ n, sumW c i = n := ⟨_, rfl⟩
  have hnv := HNv.out
  rw [hn] at hnv
  subst hnv
  have HN2 : Hid (sumW c i = n) := hn
  clear HNv hn
  by_cases hin : i < 13
  · have hiI : (i : Int) < 13 := by omega
    have ci : wr.cell? ⟨p, 6 + i, none⟩ = some (.int .i64 (c i)) := HA.out.2.kind i hin
    go_wp2_with fail
    go_roundw
    case rel => exact ⟨i + 1, by go_num, by omega, by show _ = _; unfold sumW; rw [HN2.out], HA.out⟩
    case measure => simp [intOf]; omega
  have hiI : ¬ (i : Int) < 13 := by omega
  have hn13 : n = (L.length : Int) := by rw [← HN2.out, ← HSm.out, show i = 13 by omega]
  subst hn13
  clear HN2 HSm hi hin
  rename World => W
  go_wp2_with fail
  refine wp_region_T (fun w' => w'.cell? ⟨p, 0, none⟩ = some (.int .i64 (L.length : Int)) ∧ w'.cell? ⟨p, 1, none⟩ = some (.int .i64 (s.size : Int))) (fun _ => True) [] (by kernel_rfl) ⟨⟨cell_of HA.out.2 0, cell_of HA.out.2 1⟩, trivial⟩ (fun hHeld => ?_)
  refine wpAnyT_takeB (i := 0) (oi := ⟨some 37, .move (.tmp 7), _, _, _, _⟩) (v := ?vR13c1x0) rfl (by kernel_rfl) (by kernel_rfl) (by kernel_rfl) (by kernel_rfl) (fun _ _ _ h => h) (Or.inl ⟨by rfl, ?hyR13c1x0⟩) (by assumption) ?restR13c1x0
  case hyR13c1x0 => (intro w hSw; (try dsimp only at hSw); go_simp; try (with_reducible rfl))
  try simp only [Act.put, List.setIfInBounds_toArray, List.set_cons_zero, List.set_cons_succ]
  refine wpAnyT_takeB (i := 1) (oi := ⟨some 38, .fieldAddr 55 (.tmp 5) 0, _, _, _, _⟩) (v := ?vR13c1x1) rfl (by kernel_rfl) (by kernel_rfl) (by kernel_rfl) (by kernel_rfl) (fun _ _ _ h => h) (Or.inl ⟨by rfl, ?hyR13c1x1⟩) (by assumption) ?restR13c1x1
  case hyR13c1x1 => (intro w hSw; (try dsimp only at hSw); go_simp; try (with_reducible rfl))
  try simp only [Act.put, List.setIfInBounds_toArray, List.set_cons_zero, List.set_cons_succ]
  refine wpAnyT_takeB (i := 2) (oi := ⟨some 39, .load 3 (.tmp 38), _, _, _, _⟩) (v := ?vR13c1x2) rfl (by kernel_rfl) (by kernel_rfl) (by kernel_rfl) (by kernel_rfl) (fun _ _ _ h => h) (Or.inl ⟨by rfl, ?hyR13c1x2⟩) (by assumption) ?restR13c1x2
  case hyR13c1x2 => (intro w hSw; (try dsimp only at hSw); go_simp; try (with_reducible rfl))
  try simp only [Act.put, List.setIfInBounds_toArray, List.set_cons_zero, List.set_cons_succ]
  refine wpAnyT_takeB (i := 3) (oi := ⟨some 40, .binOp .neq 3 (.tmp 37) (.tmp 39) 3, _, _, _, _⟩) (v := ?vR13c1x3) rfl (by kernel_rfl) (by kernel_rfl) (by kernel_rfl) (by kernel_rfl) (fun _ _ _ h => h) (Or.inl ⟨by rfl, ?hyR13c1x3⟩) (by assumption) ?restR13c1x3
  case hyR13c1x3 => (intro w hSw; (try dsimp only at hSw); go_simp; try (with_reducible rfl))
  try simp only [Act.put, List.setIfInBounds_toArray, List.set_cons_zero, List.set_cons_succ]
  refine wpAnyT_takeB (i := 4) (oi := ⟨some 41, .move (.tmp 40), _, _, _, _⟩) (v := ?vR13c1x4) rfl (by kernel_rfl) (by kernel_rfl) (by kernel_rfl) (by kernel_rfl) (fun _ _ _ h => h) (Or.inl ⟨by rfl, ?hyR13c1x4⟩) (by assumption) ?restR13c1x4
  case hyR13c1x4 => (intro w hSw; (try dsimp only at hSw); go_simp; try (with_reducible rfl))
  try simp only [Act.put, List.setIfInBounds_toArray, List.set_cons_zero, List.set_cons_succ]
  refine wpAnyT_takeB (i := 5) (oi := ⟨some 42, .fieldAddr 55 (.tmp 5) 1, _, _, _, _⟩) (v := ?vR13c1x5) rfl (by kernel_rfl) (by kernel_rfl) (by kernel_rfl) (by kernel_rfl) (fun _ _ _ h => h) (Or.inl ⟨by rfl, ?hyR13c1x5⟩) (by assumption) ?restR13c1x5
  case hyR13c1x5 => (intro w hSw; (try dsimp only at hSw); go_simp; try (with_reducible rfl))
  try simp only [Act.put, List.setIfInBounds_toArray, List.set_cons_zero, List.set_cons_succ]
  refine wpAnyT_takeB (i := 6) (oi := ⟨some 43, .load 3 (.tmp 42), _, _, _, _⟩) (v := ?vR13c1x6) rfl (by kernel_rfl) (by kernel_rfl) (by kernel_rfl) (by kernel_rfl) (fun _ _ _ h => h) (Or.inl ⟨by rfl, ?hyR13c1x6⟩) (by assumption) ?restR13c1x6
  case hyR13c1x6 => (intro w hSw; (try dsimp only at hSw); go_simp; try (with_reducible rfl))
  try simp only [Act.put, List.setIfInBounds_toArray, List.set_cons_zero, List.set_cons_succ]
  refine wpAnyT_takeB (i := 7) (oi := ⟨some 44, .move (.tmp 0), _, _, _, _⟩) (v := ?vR13c1x7) rfl (by kernel_rfl) (by kernel_rfl) (by kernel_rfl) (by kernel_rfl) (fun _ _ _ h => h) (Or.inl ⟨by rfl, ?hyR13c1x7⟩) (by assumption) ?restR13c1x7
  case hyR13c1x7 => (intro w hSw; (try dsimp only at hSw); go_simp; try (with_reducible rfl))
  try simp only [Act.put, List.setIfInBounds_toArray, List.set_cons_zero, List.set_cons_succ]
  refine wpAnyT_takeB (i := 8) (oi := ⟨some 45, .call { callee := .builtin .len, args := #[(.tmp 44)], argTypes := #[9] }, _, _, _, _⟩) (v := ?vR13c1x8) rfl (by kernel_rfl) (by kernel_rfl) (by kernel_rfl) (by kernel_rfl) (fun _ _ _ h => h) (Or.inl ⟨by rfl, ?hyR13c1x8⟩) (by assumption) ?restR13c1x8
  case hyR13c1x8 => (intro w hSw; (try dsimp only at hSw); go_simp; try (with_reducible rfl))
  try simp only [Act.put, List.setIfInBounds_toArray, List.set_cons_zero, List.set_cons_succ]
  refine wpAnyT_takeB (i := 9) (oi := ⟨some 46, .binOp .neq 3 (.tmp 43) (.tmp 45) 3, _, _, _, _⟩) (v := ?vR13c1x9) rfl (by kernel_rfl) (by kernel_rfl) (by kernel_rfl) (by kernel_rfl) (fun _ _ _ h => h) (Or.inl ⟨by rfl, ?hyR13c1x9⟩) (by assumption) ?restR13c1x9
  case hyR13c1x9 => (intro w hSw; (try dsimp only at hSw); go_simp; try (with_reducible rfl))
  try simp only [Act.put, List.setIfInBounds_toArray, List.set_cons_zero, List.set_cons_succ]
  refine wpAnyT_takeB (i := 10) (oi := ⟨some 47, .pick (.tmp 41) ((.const (.bool true))) (.tmp 46), _, _, _, _⟩) (v := ?vR13c1x10) rfl (by kernel_rfl) (by kernel_rfl) (by kernel_rfl) (by kernel_rfl) (fun _ _ _ h => h) (Or.inl ⟨by rfl, ?hyR13c1x10⟩) (by assumption) ?restR13c1x10
  case hyR13c1x10 => (intro w hSw; (try dsimp only at hSw); go_simp; try (with_reducible rfl))
  try simp only [Act.put, List.setIfInBounds_toArray, List.set_cons_zero, List.set_cons_succ]
  refine wpAnyT_takeB (i := 11) (oi := ⟨some 48, .move (.tmp 47), _, _, _, _⟩) (v := ?vR13c1x11) rfl (by kernel_rfl) (by kernel_rfl) (by kernel_rfl) (by kernel_rfl) (fun _ _ _ h => h) (Or.inl ⟨by rfl, ?hyR13c1x11⟩) (by assumption) ?restR13c1x11
  case hyR13c1x11 => (intro w hSw; (try dsimp only at hSw); go_simp; try (with_reducible rfl))
  try simp only [Act.put, List.setIfInBounds_toArray, List.set_cons_zero, List.set_cons_succ]
  refine wpAnyT_takeB (i := 12) (oi := ⟨some 49, .fieldAddr 55 (.tmp 5) 0, _, _, _, _⟩) (v := ?vR13c1x12) rfl (by kernel_rfl) (by kernel_rfl) (by kernel_rfl) (by kernel_rfl) (fun _ _ _ h => h) (Or.inl ⟨by rfl, ?hyR13c1x12⟩) (by assumption) ?restR13c1x12
  case hyR13c1x12 => (intro w hSw; (try dsimp only at hSw); go_simp; try (with_reducible rfl))
  try simp only [Act.put, List.setIfInBounds_toArray, List.set_cons_zero, List.set_cons_succ]
  refine wpAnyT_takeB (i := 13) (oi := ⟨some 50, .load 3 (.tmp 49), _, _, _, _⟩) (v := ?vR13c1x13) rfl (by kernel_rfl) (by kernel_rfl) (by kernel_rfl) (by kernel_rfl) (fun _ _ _ h => h) (Or.inl ⟨by rfl, ?hyR13c1x13⟩) (by assumption) ?restR13c1x13
  case hyR13c1x13 => (intro w hSw; (try dsimp only at hSw); go_simp; try (with_reducible rfl))
  try simp only [Act.put, List.setIfInBounds_toArray, List.set_cons_zero, List.set_cons_succ]
  refine wpAnyT_takeB (i := 14) (oi := ⟨some 51, .move (.tmp 0), _, _, _, _⟩) (v := ?vR13c1x14) rfl (by kernel_rfl) (by kernel_rfl) (by kernel_rfl) (by kernel_rfl) (fun _ _ _ h => h) (Or.inl ⟨by rfl, ?hyR13c1x14⟩) (by assumption) ?restR13c1x14
  case hyR13c1x14 => (intro w hSw; (try dsimp only at hSw); go_simp; try (with_reducible rfl))
  try simp only [Act.put, List.setIfInBounds_toArray, List.set_cons_zero, List.set_cons_succ]
  refine wpAnyT_one (i := 15) (o := ⟨some 52, .call { callee := .value (.func 22), args := #[(.tmp 51)], argTypes := #[9] }, _, _, _, _⟩) (by kernel_rfl) rfl (fun K hK => ?_)
  go_simp
  refine calls_at (HLn.out W.drew) (by with_reducible rfl) (by with_reducible rfl) ?_
  rintro e w5 ⟨v5, rfl, ho5, hb5⟩
  obtain ⟨a5, c5, rfl⟩ := own_slice ho5
  have HA5 : Hid (Below w.heap.size w w5 ∧ WtAt w5 p c L.length s.size r) := ⟨bl_next HA.out.1.drew hb5, WtAt.below (w := W.drew) HA.out.2 hb5⟩
  clear ho5 hb5 HA
  go_wp2_with fail
  refine hK.out _ _ ⟨⟨cell_of HA5.out.2 0, cell_of HA5.out.2 1⟩, fun _ => trivial⟩ ?_
  have hHeld := (⟨⟨cell_of HA5.out.2 0, cell_of HA5.out.2 1⟩, trivial⟩ : (w5.cell? ⟨p, 0, none⟩ = some (.int .i64 (L.length : Int)) ∧ w5.cell? ⟨p, 1, none⟩ = some (.int .i64 (s.size : Int))) ∧ True)
  clear hK K
  try simp only [Act.put, List.setIfInBounds_toArray, List.set_cons_zero, List.set_cons_succ]
  refine wpAnyT_takeB (i := 16) (oi := ⟨some 53, .call { callee := .builtin .len, args := #[(.tmp 52)], argTypes := #[60] }, _, _, _, _⟩) (v := ?vR13c1x16) rfl (by kernel_rfl) (by kernel_rfl) (by kernel_rfl) (by kernel_rfl) (fun _ _ _ h => h) (Or.inl ⟨by rfl, ?hyR13c1x16⟩) (by assumption) ?restR13c1x16
  case hyR13c1x16 => (intro w hSw; (try dsimp only at hSw); go_simp; try (with_reducible rfl))
  try simp only [Act.put, List.setIfInBounds_toArray, List.set_cons_zero, List.set_cons_succ]
  refine wpAnyT_takeB (i := 17) (oi := ⟨some 54, .binOp .neq 3 (.tmp 50) (.tmp 53) 3, _, _, _, _⟩) (v := ?vR13c1x17) rfl (by kernel_rfl) (by kernel_rfl) (by kernel_rfl) (by kernel_rfl) (fun _ _ _ h => h) (Or.inl ⟨by rfl, ?hyR13c1x17⟩) (by assumption) ?restR13c1x17
  case hyR13c1x17 => (intro w hSw; (try dsimp only at hSw); go_simp; try (with_reducible rfl))
  try simp only [Act.put, List.setIfInBounds_toArray, List.set_cons_zero, List.set_cons_succ]
  refine wpAnyT_takeB (i := 18) (oi := ⟨some 55, .pick (.tmp 48) ((.const (.bool true))) (.tmp 54), _, _, _, _⟩) (v := ?vR13c1x18) rfl (by kernel_rfl) (by kernel_rfl) (by kernel_rfl) (by kernel_rfl) (fun _ _ _ h => h) (Or.inl ⟨by rfl, ?hyR13c1x18⟩) (by assumption) ?restR13c1x18
  case hyR13c1x18 => (intro w hSw; (try dsimp only at hSw); go_simp; try (with_reducible rfl))
  try simp only [Act.put, List.setIfInBounds_toArray, List.set_cons_zero, List.set_cons_succ]
  refine wpAnyT_done (by kernel_rfl) ?_ _
  clear HLn
  go_wp2_with fail
  clear hHeld
  go_loop [9] (fun iv => ∃ k : Nat, iv = .int .i64 (k : Int) ∧ k ≤ t.size ∧ Hid (∀ j, (hj : j < t.size) → j < k → ((t[j].toNat : Int) == 10) = false)) (fun iv => t.size - (intOf iv).toNat)
  case atStart => exact ⟨0, rfl, Nat.zero_le _, fun j _ h => absurd h (Nat.not_lt_zero j)⟩
  case round =>
  obtain ⟨k, rfl, hk, HT⟩ := hrel
  have htz : t.size ≤ 100000 := HSz.out.2
  by_cases hlt : k < t.size
  · have hkI : (k : Int) < (t.size : Int) := by omega
    cases hc : ((t[k].toNat : Int) == 10)
    · have HT2 : Hid (∀ j, (hj : j < t.size) → j < k + 1 → ((t[j].toNat : Int) == 10) = false) := fun j hj h => by
        by_cases e : j = k
        · subst e; exact hc
        · exact HT.out j hj (by omega)
      go_wp2_with fail
      go_round
      case rel => exact ⟨k + 1, by go_num, by omega, HT2⟩
      case measure => simp [intOf]; omega
    · go_wp2_with fail
      go_ret
      exact ⟨rfl, HA5.out.1⟩
  have hkI : ¬ (k : Int) < (t.size : Int) := by omega
  have HNo : Hid ((10 : UInt8) ∉ t.data.toList) := no_ten fun j hj => HT.out j hj (by omega)
  clear HT hk hlt htz
  go_upto_region 20 with fail
  go_cut [76] from 66 to 76 (fun s76 wx => ∃ b : Bool, s76 = .bool b ∧ w5 = wx ∧ Hid ((b = true → LogX L (s ++ ⟨#[10]⟩)) ∧ (b = false → LogX L s)))
  case first =>
    by_cases h0 : 0 < s.size
    · obtain ⟨m, hm⟩ : ∃ m, s.size = m + 1 := ⟨s.size - 1, by omega⟩
      have h0I : (0 : Int) < (s.size : Int) := by omega
      have hml : m < s.size := by omega
      have hw1 : wrap64 ((s.size : Int) - 1) = (m : Int) := by unfold wrap64; have := HSz.out; omega
      have hm0 : (0 : Int) ≤ (m : Int) := by omega
      have hmI : (m : Int) < (s.size : Int) := by omega
      cases hc : ((s[m].toNat : Int) == 10)
      · have HQ := not_last hm hml hc
        have HQ1 : Hid (LogX L (s ++ ⟨#[10]⟩)) := by
          have e : (s ++ ⟨#[10]⟩).data.toList = s.data.toList ++ [10] := by simp [ByteArray.data_append]
          show LogX _ _
          unfold LogX
          rw [e]
          exact ⟨HQ.1.trans HL.out, HQ.2, by rw [ByteArray.size_append]; have := HSz.out; have : (ByteArray.mk #[10]).size = 1 := rfl; omega⟩
        have hc' : ((s[m].toNat : Int) != 10) = true := by simpa using hc
        have HM : Hid (s.size = m + 1) := hm
        clear HQ hc hm
        go_wp2_with fail
        go_meet
        exact ⟨true, rfl, rfl, fun _ => HQ1.out, fun h => by cases h⟩
      · have HQ1 : Hid (LogX L s) := ⟨HL.out, is_last hm hml hc, by have := HSz.out; omega⟩
        have hc' : ((s[m].toNat : Int) != 10) = false := by simpa using hc
        have HM : Hid (s.size = m + 1) := hm
        clear hc hm
        go_wp2_with fail
        go_meet
        exact ⟨false, rfl, rfl, fun h => (by cases h), fun _ => HQ1.out⟩
    · have h0I : ¬ (0 : Int) < (s.size : Int) := by omega
      have HQ1 : Hid (LogX L s) := by
        refine ⟨HL.out, .inl (List.eq_nil_of_length_eq_zero ?_), by omega⟩
        rw [Array.length_toList]
        have : s.data.size = s.size := rfl
        omega
      go_wp2_with fail
      go_meet
      exact ⟨false, rfl, rfl, fun h => (by cases h), fun _ => HQ1.out⟩
  case rest =>
  obtain ⟨b, rfl, rfl, HQb⟩ := hcut
  go_upto_if 76 with fail
  go_cut [0] from 77 to 78 (fun s0 wx => ∃ X : ByteArray, s0 = .string X ∧ w5 = wx ∧ Hid (LogX L X))
  case first =>
    have hcat : ∀ W, (Op.stringOp .add s ⟨#[10]⟩).run Tryz.prog W = .ok (.string (s ++ ⟨#[10]⟩)) W := fun W => run_string_add_sum W s ⟨#[10]⟩ (by have := HSz.out; have : (ByteArray.mk #[10]).size = 1 := rfl; omega)
    cases b with
    | true =>
      have HQ1 := HQb.out.1 rfl
      have HQ2 : Hid (LogX L (s ++ ⟨#[10]⟩)) := HQ1
      clear HQ1 HQb
      go_wp2_with fail
      go_meet
      exact ⟨_, rfl, rfl, HQ2⟩
    | false =>
      have HQ1 := HQb.out.2 rfl
      have HQ2 : Hid (LogX L s) := HQ1
      clear HQ1 HQb
      go_wp2_with fail
      go_meet
      exact ⟨_, rfl, rfl, HQ2⟩
  case rest =>
  obtain ⟨X, rfl, rfl, HQ⟩ := hcut
  obtain ⟨Y, hY⟩ : ∃ Y, X ++ t ++ ⟨#[10]⟩ = Y := ⟨_, rfl⟩
  have HY : Hid (lns Y.data.toList [] = L ++ [t.data.toList]) := by
    show _ = _
    rw [← hY, ended_log X t s (HQ.out.1.trans HL.out.symm) HQ.out.2.1 HNo.out, HL.out]
  have HYs : Hid (Y.size ≤ 300000) := by
    show _ ≤ _
    rw [← hY, ByteArray.size_append, ByteArray.size_append]
    have := HQ.out.2.2
    have := HSz.out
    have : (ByteArray.mk #[10]).size = 1 := rfl
    omega
  have HWY : Hid (Calls Tryz.prog 21 #[.string Y] w5 (WgO (lns Y.data.toList []) Y.size w5)) := weigh_any Y w5 (by have := HYs.out; omega) (HG.out w5 HA5.out.1)
  have HTl : Hid (t.data.toList.length = t.size) := Array.length_toList
  have hxs := HQ.out.2.2
  have hct1 : ∀ W, (Op.stringOp .add X t).run Tryz.prog W = .ok (.string (X ++ t)) W := fun W => run_string_add_sum W X t (by have := HSz.out; omega)
  have hct2 : ∀ W, (Op.stringOp .add (X ++ t) ⟨#[10]⟩).run Tryz.prog W = .ok (.string (X ++ t ++ ⟨#[10]⟩)) W := fun W => run_string_add_sum W (X ++ t) ⟨#[10]⟩ (by rw [ByteArray.size_append]; have := HSz.out; have : (ByteArray.mk #[10]).size = 1 := rfl; omega)
  clear hxs
  go_wp2_with fail
  try rw [hY]
  refine calls_at HWY.out (by with_reducible rfl) (by with_reducible rfl) ?_
  intro e w6 h6
  rw [HY.out] at h6
  have hb6 := h6.1
  have H6 : Hid (Below w.heap.size w w6 ∧ WtAt w6 p c L.length s.size r) := ⟨bl_next HA5.out.1 hb6, HA5.out.2.below hb6⟩
  have HP6 : Hid (p < w6.heap.size) := (Array.getElem?_eq_some_iff.1 H6.out.2).1
  rcases h6.2 with ⟨hE, rfl⟩ | ⟨pre, x, post, f, hLe, hp, hx, rfl, hf⟩
  rotate_left
  · clear h6 hb6 hLe hp hx hf HWY HG HA5 hct1 hct2
    obtain ⟨V, hV⟩ : ∃ V, w6.alloc (.cells #[.int .i64 0, .int .i64 0, .int .i64 0, .int .i64 0, .int .i64 0, .int .i64 0, .int .i64 0, .int .i64 0, .int .i64 0, .int .i64 0, .int .i64 0, .int .i64 0, .int .i64 0, .int .i64 0, .int .i64 0, .int .i64 0, .int .i64 0, .int .i64 0, .int .i64 0] 55) = V := ⟨_, rfl⟩
    have HX := box_step w6 zW V hV
    have HX1 : Hid (V.heap[w6.heap.size]? = some (.cells zW 55 (0, 0))) := HX.1
    have HX2 : Hid (Below w6.heap.size w6 (V.setRow w6.heap.size zW)) := HX.2.2
    clear HX
    go_wp2_with (refine wpList_store_row rfl 55 (.tmp 10) (.tmp 85) rfl w6.heap.size zW (by rfl) (by rfl) 55 zW HX1.out infW rfl (by simp [zW, Value.oneCell']) ?_)
    go_ret
    exact ⟨rfl, bl_next H6.out.1 HX2.out⟩
  obtain ⟨r2, hr⟩ := wt_is (L ++ [t.data.toList]) Y.size (by have := HN.out; rw [List.length_append, List.length_singleton]; omega)
  have hone := sc_one L t.data.toList (by have := HN.out; omega)
  rw [HC.out] at hone
  obtain ⟨d, hdd⟩ : ∃ d, scS (L ++ [t.data.toList]) = d := ⟨_, rfl⟩
  obtain ⟨n2, hn2⟩ : ∃ n2 : Int, ((L ++ [t.data.toList]).length : Int) = n2 := ⟨_, rfl⟩
  rw [hr, hdd, hn2]
  rw [hdd] at hone
  have HLow : Hid (∀ j, j < 13 → c j ≤ d j) := hone.1
  have h4 : decide (c 14 ≤ d 14) = true := decide_eq_true hone.2.1
  have h5 : d 15 = max (c 15) (t.size : Int) := by rw [hone.2.2, HTl.out]
  have HN2 : Hid (n2 = wrap64 ((L.length : Int) + 1)) := by
    show _ = _
    rw [← hn2, List.length_append, List.length_singleton, wrap_lo (by omega) (by have := HN.out; omega)]
    exact Int.natCast_add _ _
  have HH5 : Hid (d 15 = max (c 15) (t.size : Int)) := h5
  have HH4 : Hid (c 14 ≤ d 14) := hone.2.1
  clear h6 hb6 hE hr hdd hn2 hone HWY HY h4 h5 HC hct1 hct2
  obtain ⟨V, hV⟩ : ∃ V, w6.alloc (.cells #[.int .i64 0, .int .i64 0, .int .i64 0, .int .i64 0, .int .i64 0, .int .i64 0, .int .i64 0, .int .i64 0, .int .i64 0, .int .i64 0, .int .i64 0, .int .i64 0, .int .i64 0, .int .i64 0, .int .i64 0, .int .i64 0, .int .i64 0, .int .i64 0, .int .i64 0] 55) = V := ⟨_, rfl⟩
  have HX := box_step w6 (wtC d n2 Y.size r2) V hV
  obtain ⟨V1, hV1⟩ : ∃ V1, V.setRow w6.heap.size (wtC d n2 Y.size r2) = V1 := ⟨_, rfl⟩
  rw [hV1] at HX
  have HX1 : Hid (V.heap[w6.heap.size]? = some (.cells zW 55 (0, 0))) := HX.1
  have HB0 : Hid (Below w.heap.size w V1 ∧ WtAt V1 p c L.length s.size r ∧ WtAt V1 w6.heap.size d n2 Y.size r2) := ⟨bl_next H6.out.1 HX.2.2, H6.out.2.below HX.2.2, HX.2.1⟩
  clear HX HA5 H6 HQ HNo hY
  go_wp2_with (refine wpList_store_row rfl 55 (.tmp 10) (.tmp 85) rfl w6.heap.size (wtC d n2 Y.size r2) (by rfl) (by rfl) 55 zW HX1.out infW rfl (by simp [wtC, Value.oneCell']) ?_; rw [hV1])
  clear HX1 hV hV1
  obtain ⟨q, hq⟩ : ∃ q, w6.heap.size = q := ⟨_, rfl⟩
  rw [hq] at HB0 HP6 ⊢
  clear hq
  go_loopw [11] (fun iv wr => ∃ i : Nat, iv = .int .i64 (i : Int) ∧ i ≤ 13 ∧ Hid (Below w.heap.size w wr ∧ WtAt wr p c L.length s.size r ∧ WtAt wr q d n2 Y.size r2)) (fun iv _ => 13 - (intOf iv).toNat)
  case atStart => exact ⟨0, rfl, Nat.zero_le _, HB0.out⟩
  case round =>
  obtain ⟨i, rfl, hi, HB⟩ := hrel
  clear HB0
  by_cases hin : i < 13
  · have hiI : (i : Int) < 13 := by omega
    have ci : wr.cell? ⟨p, 6 + i, none⟩ = some (.int .i64 (c i)) := HB.out.2.1.kind i hin
    have di : wr.cell? ⟨q, 6 + i, none⟩ = some (.int .i64 (d i)) := HB.out.2.2.kind i hin
    have hlt : ¬ d i < c i := by have := HLow.out i hin; omega
    have hHB : ∀ k, Below w.heap.size w (wr.drewN k) ∧ WtAt (wr.drewN k) p c L.length s.size r ∧ WtAt (wr.drewN k) q d n2 Y.size r2 := fun k => ⟨sc_drewN HB.out.1 k, HB.out.2.1, HB.out.2.2⟩
    have HHB : Hid (∀ k, Below w.heap.size w (wr.drewN k) ∧ WtAt (wr.drewN k) p c L.length s.size r ∧ WtAt (wr.drewN k) q d n2 Y.size r2) := hHB
    clear hHB
    go_wp2_with fail
    go_quiet (fail)
    go_wp2_with fail
    go_roundw
    case rel => exact ⟨i + 1, by go_num, by omega, HHB.out _⟩
    case measure => simp [intOf]; omega
  have hiI : ¬ (i : Int) < 13 := by omega
  have c0 : wr.cell? ⟨p, 0, none⟩ = some (.int .i64 (L.length : Int)) := cell_of HB.out.2.1 0
  have c4 : wr.cell? ⟨p, 4, none⟩ = some (.int .i64 (c 14)) := cell_of HB.out.2.1 4
  have c5' : wr.cell? ⟨p, 5, none⟩ = some (.int .i64 (c 15)) := cell_of HB.out.2.1 5
  have d0 : wr.cell? ⟨q, 0, none⟩ = some (.int .i64 n2) := cell_of HB.out.2.2 0
  have d4 : wr.cell? ⟨q, 4, none⟩ = some (.int .i64 (d 14)) := cell_of HB.out.2.2 4
  have d5 : wr.cell? ⟨q, 5, none⟩ = some (.int .i64 (d 15)) := cell_of HB.out.2.2 5
  obtain ⟨ln, hln⟩ : ∃ ln : Int, (L.length : Int) = ln := ⟨_, rfl⟩
  rw [hln] at c0
  have e1 : (n2 == wrap64 (ln + 1)) = true := by rw [HN2.out, hln]; exact beq_self_eq_true _
  obtain ⟨u4, hu4⟩ : ∃ u : Int, c 14 = u := ⟨_, rfl⟩
  obtain ⟨u5, hu5⟩ : ∃ u : Int, c 15 = u := ⟨_, rfl⟩
  obtain ⟨v4, hv4⟩ : ∃ u : Int, d 14 = u := ⟨_, rfl⟩
  obtain ⟨v5, hv5⟩ : ∃ u : Int, d 15 = u := ⟨_, rfl⟩
  rw [hu4] at c4
  rw [hu5] at c5'
  rw [hv4] at d4
  rw [hv5] at d5
  have e4 : u4 ≤ v4 := by rw [← hu4, ← hv4]; exact HH4.out
  have e5 : (v5 == max u5 (t.size : Int)) = true := by rw [← hu5, ← hv5, HH5.out]; exact beq_self_eq_true _
  clear hln hu4 hu5 hv4 hv5 HH4 HH5 HN2 HLow
  go_wp2_with fail
  go_ret
  exact ⟨rfl, HB.out.1⟩


end Go.Proofs.YtjgghimjnbjlbaaGreatDoor
