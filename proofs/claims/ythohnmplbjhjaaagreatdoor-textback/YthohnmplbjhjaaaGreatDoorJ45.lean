/-
  Put together: TzParse, TzLooseLaw, TzBackLaw.
-/
import Derived.Test.YthohnmplbjhjaaaGreatDoorTfKnown
import Derived.Test.YthohnmplbjhjaaaGreatDoorJ38
import Derived.Test.YthohnmplbjhjaaaGreatDoorJ12
import Derived.Test.YthohnmplbjhjaaaGreatDoorJ42
import Derived.Test.YthohnmplbjhjaaaGreatDoorJ08
import Derived.Test.YthohnmplbjhjaaaGreatDoorJ27
import Derived.Test.YthohnmplbjhjaaaGreatDoorJ25
namespace Go.Proofs.YthohnmplbjhjaaaGreatDoor
open Go Go.RowKit Go.Shelf Go.Lib
theorem y01 {s : List UInt8} (hs : s.length ≤ 70000) : (((yD s).2.1 = 0 ∧ (yD s).2.2 = 0) ∨ ((yD s).2.2 ≠ 0 ∧ (yD s).1 = zm)) ∧ 0 ≤ (yD s).2.1 ∧ (yD s).2.1 ≤ 100000 := by
  have hn := Zd s []
  by_cases hl : 65536 < s.length
  · have : yD s = (zm, (1, 50)) := by unfold yD; rw [if_pos hl]
    rw [this]
    exact ⟨.inr ⟨(by decide : (50 : Int) ≠ 0), rfl⟩, by simp, by simp⟩
  · rw [QD hl]
    obtain ⟨g, hg⟩ : ∃ g, goT (yv s []) 1 zm = g := ⟨_, rfl⟩
    rw [hg]
    obtain ⟨m, o⟩ := g
    cases o with
    | none =>
      unfold finT
      simp only
      split
      · exact ⟨.inr ⟨(by decide : (59 : Int) ≠ 0), rfl⟩, by simp, by simp; omega⟩
      · exact ⟨.inl ⟨rfl, rfl⟩, by simp, by simp⟩
    | some p =>
      obtain ⟨i, e⟩ := p
      obtain ⟨h1, h2, _, h4⟩ := Q3 _ 1 zm m i e hg
      exact ⟨.inr ⟨h4, rfl⟩, by simp [finT], by simp [finT]; omega⟩
def PoA (r : Md.Mo × (Int × Int)) (w : World) (e : Ending) (w' : World) : Prop :=
  ∃ a1 c1 a2 c2 a3 c3 it i0, e = .returned (.tuple #[.agg #[.slice a1 r.1.vars.length c1, .slice a2 r.1.cons.length c2, .bool r.1.has, .slice a3 r.1.goal.length c3], it]) ∧ MoAt w' r.1 (.slice a1 r.1.vars.length c1) (.slice a2 r.1.cons.length c2) (.slice a3 r.1.goal.length c3) ∧ Below w.heap.size w w' ∧
    ((r.2.2 = 0 ∧ it = .nilIface) ∨ (r.2.2 ≠ 0 ∧ ∃ F, it = .iface 91 (.pointer (some ⟨F, 0, none⟩)))) ∧
    ∀ w2, Below w'.heap.size w' w2 → Calls Tryz.prog 17 #[it] w2 fun e w3 => e = .returned (.tuple #[.agg #[.int .i64 i0, .int .i64 r.2.1, .int .i64 r.2.2], .bool true]) ∧ Below w2.heap.size w2 w3
theorem y5Q (w : World) : MoAt w zm (.slice none 0 0) (.slice none 0 0) (.slice none 0 0) := by
  refine ⟨⟨none, 0, rfl, by simp [zm], fun x hx => by simp [zm] at hx, fun h => absurd h (by simp [zm])⟩, fun a n cp e => ?_, ⟨none, 0, rfl, by simp [zm], fun h => absurd h (by simp [zm])⟩, ⟨none, 0, rfl, by simp [zm], fun h => absurd h (by simp [zm])⟩⟩
  injection e with _ e2 e3
  omega
theorem y02 (s : List UInt8) (w : World) (hw : Way w w) (hs : s.length ≤ 70000) : Calls Tryz.prog 13 #[.string (yd s)] w (PoA (yD s) w) := by
  refine (ZD s w hw (by omega)).mono fun e w' hp => ?_
  obtain ⟨hb, hp⟩ := hp
  obtain ⟨hpp, _, _⟩ := y01 hs
  rcases hp with ⟨h0, _, vv, vc, vg, rfl, hM⟩ | ⟨h0, F, rfl, hF, _⟩
  · obtain ⟨a1, c1, a2, c2, a3, c3, rfl, rfl, rfl⟩ := y2b hM
    have h1 : (yD s).2.1 = 0 := by rcases hpp with h | h; exact h.1; exact absurd h0 h.1
    refine ⟨a1, c1, a2, c2, a3, c3, .nilIface, 0, rfl, hM, hb, .inl ⟨h0, rfl⟩, fun w2 _ => ?_⟩
    rw [h0, h1]
    exact y3G w2
  · have h1 : (yD s).1 = zm := by rcases hpp with h | h; exact absurd h.2 h0; exact h.2
    rw [show (yD s) = (zm, (yD s).2) from Prod.ext h1 rfl]
    exact ⟨none, 0, none, 0, none, 0, _, 1, rfl, y5Q w', hb, .inr ⟨h0, F, rfl⟩, fun w2 hb2 => Q2 F _ _ w2 ((hb2.block F (Array.getElem?_eq_some_iff.1 hF).1).trans hF) h0⟩
end Go.Proofs.YthohnmplbjhjaaaGreatDoor

namespace Go.Proofs.YthohnmplbjhjaaaGreatDoor
open Go Go.RowKit Go.Shelf Go.Lib
theorem y5P {w w' : World} {N : Nat} {c : Array Value} {t : TypeId} (h : w.heap[N]? = some (.cells c t (0, 0))) (hb : Below w.heap.size w w') : w'.heap[N]? = some (.cells c t (0, 0)) := (hb.block N (Array.getElem?_eq_some_iff.1 h).1).trans h
theorem xX (w : World) (o : Obj) : Below w.heap.size w (w.alloc o) := (Below.refl _ _).alloc (Nat.le_refl _) o
end Go.Proofs.YthohnmplbjhjaaaGreatDoor

namespace Go.Proofs.YthohnmplbjhjaaaGreatDoor
open Go Go.RowKit Go.Shelf Go.Lib
theorem YA {w w' : World} (h : Below w.heap.size w w') : KnO w (.returned (.bool true)) w' := ⟨rfl, h⟩
theorem y5O (m : Md.Mo) : ((Md.print m).2 = 0 → (Md.print m).1.length ≤ 65536 ∧ yD (Md.print m).1 = (m, (0, 0))) := by
  intro h
  unfold Md.print at h ⊢
  by_cases hc : (Md.check m).2 = 0
  · rw [if_pos hc] at h ⊢
    by_cases hl : 65536 < (Md.textT m).length
    · rw [if_pos hl] at h
      exact absurd h (by decide)
    · rw [if_neg hl]
      exact ⟨by simp only; omega, y50 hc (by omega)⟩
  · rw [if_neg hc] at h
    exact absurd h hc
set_option maxRecDepth 100000 in
set_option maxHeartbeats 8000000 in
theorem textBack_any (m : Md.Mo) (s : List UInt8) (vv vc vg : Value) (w : World) (hM : MoAt w m vv vc vg) (hw : Way w w) (hkn : ∀ w, Way w w → Calls Tryz.prog 11 #[] w (KnO w)) : Calls Tryz.prog 3 #[.agg #[vv, vc, .bool m.has, vg], .string (yd s)] w (KnO w) := by
  have hsz : (yd s).size = s.length := zR s
  obtain ⟨va, vp, rfl, _⟩ := hM.v.form
  obtain ⟨ca, cp, rfl, _⟩ := hM.c.form
  obtain ⟨ga, gp, rfl, _⟩ := hM.g.form
  have HW : Hid (Way w w) := hw
  have HKn : Hid (∀ w, Way w w → Calls Tryz.prog 11 #[] w (KnO w)) := hkn
  obtain ⟨W1, hW1⟩ : ∃ W, w.alloc (.cells #[.slice va m.vars.length vp, .slice ca m.cons.length cp, .bool m.has, .slice ga m.goal.length gp] 26) = W := ⟨_, rfl⟩
  have hb1 : Below w.heap.size w W1 := by rw [← hW1]; exact xX _ _
  have hN1 : W1.heap[w.heap.size]? = some (.cells #[.slice va m.vars.length vp, .slice ca m.cons.length cp, .bool m.has, .slice ga m.goal.length gp] 26 (0, 0)) := by rw [← hW1]; exact heap_alloc_new w _
  obtain ⟨W2, hW2⟩ : ∃ W2, W1.alloc (.cells #[.int .i64 20000] 53) = W2 := ⟨_, rfl⟩
  have hb12 : Below W1.heap.size W1 W2 := by rw [← hW2]; exact xX _ _
  have hNl : w.heap.size < W1.heap.size := (Array.getElem?_eq_some_iff.1 hN1).1
  have hN2 := y5P hN1 hb12
  have hcnt : CountAt W2 W1.heap.size 20000 := by rw [← hW2]; exact heap_alloc_new W1 _
  have hb2 : Below w.heap.size w W2 := yj hb1 hb12
  have H8 : Hid (Calls Tryz.prog 8 #[.int .i64 20000] W1 fun e w' => e = .returned (.pointer (some ⟨W1.heap.size, 0, none⟩)) ∧ w' = W2) := by
    have := y0K 20000 W1
    rw [hW2] at this; exact this
  have H9 : Hid (Calls Tryz.prog 9 #[.pointer (some ⟨W1.heap.size, 0, none⟩), .agg #[.slice va m.vars.length vp, .slice ca m.cons.length cp, .bool m.has, .slice ga m.goal.length gp]] W2 fun e w' => e = .returned (.tuple #[]) ∧ Took W1.heap.size 20000 (Yd m) W2 w') :=
    y0P W1.heap.size 20000 m _ _ _ W2 hcnt (by decide) (by decide) w hM hb2 hb1.size
  have HMM : Hid (MoAt w m (.slice va m.vars.length vp) (.slice ca m.cons.length cp) (.slice ga m.goal.length gp)) := hM
  have HB2 : Hid (Below w.heap.size w W2) := hb2
  have HP : Hid (w.heap.size ≤ W1.heap.size ∧ w.heap.size < W1.heap.size) := ⟨hb1.size, hNl⟩
  have HN2 : Hid (W2.heap[w.heap.size]? = some (.cells #[.slice va m.vars.length vp, .slice ca m.cons.length cp, .bool m.has, .slice ga m.goal.length gp] 26 (0, 0))) := hN2
  obtain ⟨p0, p1, p2, p3⟩ := yN hN2 (Below.refl _ _)
  clear hM hw hkn hb1 hN1 hb12 hNl hcnt hb2 hN2 hW2
  obtain ⟨X, hX⟩ : ∃ X, yd s = X := ⟨_, rfl⟩
  have HX : Hid (yd s = X ∧ X.size = s.length) := ⟨hX, by rw [← hX]; exact hsz⟩
  rw [hX]
  clear hX hsz
  go_enter Tryz.func3, Tryz.ntmps3
  go_upto_region 3 with (first
    | (go_at_call 8; refine cZ H8.out ?_; rintro e w' ⟨rfl, hww⟩; rw [hww]; clear hww)
    | (go_at_call 9; refine cZ H9.out ?_; rintro e w3 ⟨rfl, ⟨⟨l2, hC2, h21, h22, hT2⟩, hG2⟩⟩))
  have HC2 : Hid (CountAt w3 W1.heap.size l2) := hC2
  have HB3 : Hid (Below w.heap.size w w3) := Xu HB2.out hG2 HP.out.1
  have HN3 : Hid (w3.heap[w.heap.size]? = some (.cells #[.slice va m.vars.length vp, .slice ca m.cons.length cp, .bool m.has, .slice ga m.goal.length gp] 26 (0, 0))) := (hG2.block w.heap.size (Array.getElem?_eq_some_iff.1 HN2.out).1 (by intro h; injection h with h; have := HP.out.2; omega)).trans HN2.out
  clear hC2 hT2 hG2 h21 h22 p0 p1 p2 p3 HN2 HB2 H8 H9 hW1
  have H10 : Hid (Calls Tryz.prog 10 #[.pointer (some ⟨W1.heap.size, 0, none⟩)] w3 fun e w' => e = .returned (.bool (decide (0 ≤ l2))) ∧ w' = w3) := xy W1.heap.size l2 w3 HC2.out
  clear HC2
  obtain ⟨bl, hbl⟩ : ∃ bl, decide (0 ≤ l2) = bl := ⟨_, rfl⟩
  rw [hbl] at H10
  clear hbl HP
  cases bl
  case false =>
    go_wp2_with (go_at_call 10; refine cZ H10.out ?_; rintro e w' ⟨rfl, hww⟩; rw [hww]; clear hww)
    go_ret
    exact YA HB3.out
  case true =>
    by_cases hs : 70000 < s.length
    · have h1 : decide (70000 < (X.size : Int)) = true := decide_eq_true (by have := HX.out.2; omega)
      clear hs
      go_wp2_with (go_at_call 10; refine cZ H10.out ?_; rintro e w' ⟨rfl, hww⟩; rw [hww]; clear hww)
      go_ret
      exact YA HB3.out
    · have h1 : decide (70000 < (X.size : Int)) = false := decide_eq_false (by have := HX.out.2; omega)
      obtain ⟨hpp, _, _⟩ := y01 (s := s) (by omega)
      have HPs : Hid (∀ w', Way w' w' → Calls Tryz.prog 13 #[.string X] w' (PoA (yD s) w')) := fun w' h' => by
        have := y02 s w' h' (by omega)
        rw [HX.out.1] at this
        exact this
      have hrt : (yD s).2.2 = 0 → (Md.check (yD s).1).2 = 0 := fun h0 => by
        refine y5h (s := s) (Prod.ext rfl ?_)
        rcases hpp with h | h
        · exact Prod.ext h.1 h0
        · exact absurd h0 h.1
      obtain ⟨r, hr⟩ : ∃ r, yD s = r := ⟨_, rfl⟩
      rw [hr] at HPs hrt
      obtain ⟨n, n0, e0⟩ := r
      simp only at HPs hrt
      have HRt : Hid (e0 = 0 → (Md.check n).2 = 0) := hrt
      have HCk : Hid (∀ (w' : World) vv vc vg, MoAt w' n vv vc vg → Calls Tryz.prog 15 #[.agg #[vv, vc, .bool n.has, vg]] w' fun e w2 => e = .returned (.tuple #[.int .i64 (Md.check n).1, .int .i64 (Md.check n).2]) ∧ Below w'.heap.size w' w2) := fun w' vv vc vg h => Zz n vv vc vg w' h
      have HSm : Hid (∀ (w' : World) vv vc vg vv' vc' vg', MoAt w' m vv vc vg → MoAt w' m vv' vc' vg' → Calls Tryz.prog 14 #[.agg #[vv, vc, .bool m.has, vg], .agg #[vv', vc', .bool m.has, vg']] w' fun e w2 => e = .returned (.bool true) ∧ Below w'.heap.size w' w2) := fun w' vv vc vg vv' vc' vg' h h' => (y5M m m vv vc vg vv' vc' vg' w' h h').mono fun e w2 hh => hh.one rfl
      have hpc := y5O m
      have hPr : ∀ w', Below w.heap.size w w' → Calls Tryz.prog 12 #[.agg #[.slice va m.vars.length vp, .slice ca m.cons.length cp, .bool m.has, .slice ga m.goal.length gp]] w' fun e w2 => e = .returned (.tuple #[.string (yd (Md.print m).1), .int .i64 (Md.print m).2]) ∧ Below w'.heap.size w' w2 := fun w' hb => Q1 m _ _ _ w' (HMM.out.below hb) (zJ HW.out hb)
      have hqs : (yd (Md.print m).1).size = (Md.print m).1.length := zR _
      have HP1 : Hid ((Md.print m).2 = 0 → ∀ w', Way w' w' → Calls Tryz.prog 13 #[.string (yd (Md.print m).1)] w' (PoA (m, (0, 0)) w')) := fun h0 w' h' => by
        have := y02 (Md.print m).1 w' h' (by have := (hpc h0).1; omega)
        rw [(hpc h0).2] at this
        exact this
      have hqb : (Md.print m).2 = 0 → decide (65536 < ((yd (Md.print m).1).size : Int)) = false := fun h0 => decide_eq_false (by have := (hpc h0).1; omega)
      obtain ⟨Q, hQ⟩ : ∃ Q, yd (Md.print m).1 = Q := ⟨_, rfl⟩
      obtain ⟨e1, he1⟩ : ∃ e1, (Md.print m).2 = e1 := ⟨_, rfl⟩
      rw [hQ] at hPr HP1 hqb
      rw [he1] at hPr HP1 hqb
      have HPr : Hid (∀ w', Below w.heap.size w w' → Calls Tryz.prog 12 #[.agg #[.slice va m.vars.length vp, .slice ca m.cons.length cp, .bool m.has, .slice ga m.goal.length gp]] w' fun e w2 => e = .returned (.tuple #[.string Q, .int .i64 e1]) ∧ Below w'.heap.size w' w2) := hPr
      obtain ⟨c1, hc1⟩ : ∃ c1, (Md.check n).1 = c1 := ⟨_, rfl⟩
      obtain ⟨c2, hc2⟩ : ∃ c2, (Md.check n).2 = c2 := ⟨_, rfl⟩
      rw [hc1, hc2] at HCk
      rw [hc2] at HRt
      clear hpp hr hrt hpc hPr hqs hQ he1 hc1 hc2 hs
      by_cases h0 : e1 = 0
      · have hq1 := hqb h0
        have h0' : (e1 == 0) = true := by simp [h0]
        have HP1' : Hid (∀ w', Way w' w' → Calls Tryz.prog 13 #[.string Q] w' (PoA (m, (0, 0)) w')) := HP1.out h0
        clear hqb h0 HP1
        have HP1 := HP1'
        clear HP1'
        by_cases h9 : e0 = 0
        · have H0 : Hid (e0 = 0) := h9
          have hcc : (c2 == 0) = true := by simp [HRt.out h9]
          clear h9
          go_wp2_with (first
            | (go_at_call 10; refine cZ H10.out ?_; rintro e w' ⟨rfl, hww⟩; rw [hww]; clear hww)
            | (go_at_call 11; refine cZ (HKn.out w3 (zJ HW.out HB3.out)) ?_; rintro e w4 ⟨rfl, hb4⟩; (have HB4 : Hid (Below w3.heap.size w3 w4 ∧ Below w.heap.size w w4) := ⟨hb4, yj HB3.out hb4⟩); obtain ⟨p0, p1, p2, p3⟩ := yN HN3.out hb4; clear hb4)
            | (go_at_call 12; refine cZ (HPr.out w4 HB4.out.2) ?_; rintro e w5 ⟨rfl, hb5⟩; (have HB5 : Hid (Below w3.heap.size w3 w5 ∧ Below w.heap.size w w5) := ⟨yj HB4.out.1 hb5, yj HB4.out.2 hb5⟩); clear hb5 p0 p1 p2 p3)
            | (go_at_call 13; refine cZ (HP1.out w5 (zJ HW.out HB5.out.2)) ?_; rintro e w6 ⟨b1, d1, b2, d2, b3, d3, it, i0, rfl, hM, hb6, hit, _⟩; (have hit' : it = .nilIface := hit.elim (fun h => h.2) (fun h => absurd rfl h.1)); subst hit'; (have H6 : Hid (MoAt w6 m (.slice b1 m.vars.length d1) (.slice b2 m.cons.length d2) (.slice b3 m.goal.length d3) ∧ Below w3.heap.size w3 w6 ∧ Below w.heap.size w w6) := ⟨hM, yj HB5.out.1 hb6, yj HB5.out.2 hb6⟩); clear hM hb6 hit)
            | (refine wpList_store_row rfl 26 _ _ rfl w6.heap.size _ rfl rfl 26 _ (heap_alloc_new _ _) (zE _ _ _ _) (by rfl) (by kernel_rfl) ?_; rw [xj]; obtain ⟨W7, hW7⟩ : ∃ W7, w6.alloc (.cells #[.slice b1 m.vars.length d1, .slice b2 m.cons.length d2, .bool m.has, .slice b3 m.goal.length d3] 26) = W7 := ⟨_, rfl⟩; obtain ⟨G1, hG1⟩ : ∃ G1, w6.heap.size = G1 := ⟨_, rfl⟩; rw [hW7]; try rw [hG1]; (have H7 : Hid (Below w6.heap.size w6 W7 ∧ W7.heap[G1]? = some (.cells #[.slice b1 m.vars.length d1, .slice b2 m.cons.length d2, .bool m.has, .slice b3 m.goal.length d3] 26 (0, 0))) := ⟨(by rw [← hW7]; exact xX _ _), (by rw [← hW7, ← hG1]; exact heap_alloc_new w6 _)⟩); obtain ⟨q0, q1, q2, q3⟩ := yN H7.out.2 (Below.refl _ _); obtain ⟨p0, p1, p2, p3⟩ := yN HN3.out (yj H6.out.2.1 H7.out.1); clear hW7 hG1)
            | (go_at_call 14; refine cZ (HSm.out W7 _ _ _ _ _ _ (H6.out.1.below H7.out.1) (HMM.out.below (yj H6.out.2.2 H7.out.1))) ?_; rintro e w8 ⟨rfl, hb8⟩; (have HB8 : Hid (Below w.heap.size w w8) := yj (yj H6.out.2.2 H7.out.1) hb8); clear hb8 p0 p1 p2 p3 q0 q1 q2 q3)
            | (go_at_call 13; refine cZ (HPs.out w8 (zJ HW.out HB8.out)) ?_; rintro e w9 ⟨x1, y1, x2, y2, x3, y3, it2, j0, rfl, hM, hb9, hit, _⟩; (have hit' : it2 = .nilIface := hit.elim (fun h => h.2) (fun h => absurd H0.out h.1)); subst hit'; (have H9 : Hid (MoAt w9 n (.slice x1 n.vars.length y1) (.slice x2 n.cons.length y2) (.slice x3 n.goal.length y3) ∧ Below w.heap.size w w9) := ⟨hM, yj HB8.out hb9⟩); clear hM hb9 hit)
            | (refine wpList_store_row rfl 26 _ _ rfl w9.heap.size _ rfl rfl 26 _ (heap_alloc_new _ _) (zE _ _ _ _) (by rfl) (by kernel_rfl) ?_; rw [xj]; obtain ⟨W10, hW10⟩ : ∃ W10, w9.alloc (.cells #[.slice x1 n.vars.length y1, .slice x2 n.cons.length y2, .bool n.has, .slice x3 n.goal.length y3] 26) = W10 := ⟨_, rfl⟩; obtain ⟨G2, hG2⟩ : ∃ G2, w9.heap.size = G2 := ⟨_, rfl⟩; rw [hW10]; try rw [hG2]; (have H10' : Hid (Below w9.heap.size w9 W10 ∧ W10.heap[G2]? = some (.cells #[.slice x1 n.vars.length y1, .slice x2 n.cons.length y2, .bool n.has, .slice x3 n.goal.length y3] 26 (0, 0))) := ⟨(by rw [← hW10]; exact xX _ _), (by rw [← hW10, ← hG2]; exact heap_alloc_new w9 _)⟩); obtain ⟨q0, q1, q2, q3⟩ := yN H10'.out.2 (Below.refl _ _); clear hW10 hG2)
            | (go_at_call 15; refine cZ (HCk.out W10 _ _ _ (H9.out.1.below H10'.out.1)) ?_; rintro e w11 ⟨rfl, hb11⟩; (have HB11 : Hid (Below w.heap.size w w11) := yj (yj H9.out.2 H10'.out.1) hb11); clear hb11 q0 q1 q2 q3))
          go_ret
          exact YA HB11.out
        · have H0 : Hid (e0 ≠ 0) := h9
          clear h9
          go_wp2_with (first
            | (go_at_call 10; refine cZ H10.out ?_; rintro e w' ⟨rfl, hww⟩; rw [hww]; clear hww)
            | (go_at_call 11; refine cZ (HKn.out w3 (zJ HW.out HB3.out)) ?_; rintro e w4 ⟨rfl, hb4⟩; (have HB4 : Hid (Below w3.heap.size w3 w4 ∧ Below w.heap.size w w4) := ⟨hb4, yj HB3.out hb4⟩); obtain ⟨p0, p1, p2, p3⟩ := yN HN3.out hb4; clear hb4)
            | (go_at_call 12; refine cZ (HPr.out w4 HB4.out.2) ?_; rintro e w5 ⟨rfl, hb5⟩; (have HB5 : Hid (Below w3.heap.size w3 w5 ∧ Below w.heap.size w w5) := ⟨yj HB4.out.1 hb5, yj HB4.out.2 hb5⟩); clear hb5 p0 p1 p2 p3)
            | (go_at_call 13; refine cZ (HP1.out w5 (zJ HW.out HB5.out.2)) ?_; rintro e w6 ⟨b1, d1, b2, d2, b3, d3, it, i0, rfl, hM, hb6, hit, _⟩; (have hit' : it = .nilIface := hit.elim (fun h => h.2) (fun h => absurd rfl h.1)); subst hit'; (have H6 : Hid (MoAt w6 m (.slice b1 m.vars.length d1) (.slice b2 m.cons.length d2) (.slice b3 m.goal.length d3) ∧ Below w3.heap.size w3 w6 ∧ Below w.heap.size w w6) := ⟨hM, yj HB5.out.1 hb6, yj HB5.out.2 hb6⟩); clear hM hb6 hit)
            | (refine wpList_store_row rfl 26 _ _ rfl w6.heap.size _ rfl rfl 26 _ (heap_alloc_new _ _) (zE _ _ _ _) (by rfl) (by kernel_rfl) ?_; rw [xj]; obtain ⟨W7, hW7⟩ : ∃ W7, w6.alloc (.cells #[.slice b1 m.vars.length d1, .slice b2 m.cons.length d2, .bool m.has, .slice b3 m.goal.length d3] 26) = W7 := ⟨_, rfl⟩; obtain ⟨G1, hG1⟩ : ∃ G1, w6.heap.size = G1 := ⟨_, rfl⟩; rw [hW7]; try rw [hG1]; (have H7 : Hid (Below w6.heap.size w6 W7 ∧ W7.heap[G1]? = some (.cells #[.slice b1 m.vars.length d1, .slice b2 m.cons.length d2, .bool m.has, .slice b3 m.goal.length d3] 26 (0, 0))) := ⟨(by rw [← hW7]; exact xX _ _), (by rw [← hW7, ← hG1]; exact heap_alloc_new w6 _)⟩); obtain ⟨q0, q1, q2, q3⟩ := yN H7.out.2 (Below.refl _ _); obtain ⟨p0, p1, p2, p3⟩ := yN HN3.out (yj H6.out.2.1 H7.out.1); clear hW7 hG1)
            | (go_at_call 14; refine cZ (HSm.out W7 _ _ _ _ _ _ (H6.out.1.below H7.out.1) (HMM.out.below (yj H6.out.2.2 H7.out.1))) ?_; rintro e w8 ⟨rfl, hb8⟩; (have HB8 : Hid (Below w.heap.size w w8) := yj (yj H6.out.2.2 H7.out.1) hb8); clear hb8 p0 p1 p2 p3 q0 q1 q2 q3)
            | (go_at_call 13; refine cZ (HPs.out w8 (zJ HW.out HB8.out)) ?_; rintro e w9 ⟨x1, y1, x2, y2, x3, y3, it2, j0, rfl, hM, hb9, hit, _⟩; obtain ⟨F, hit'⟩ := (hit.resolve_left (fun h => H0.out h.1)).2; subst hit'; (have H9 : Hid (MoAt w9 n (.slice x1 n.vars.length y1) (.slice x2 n.cons.length y2) (.slice x3 n.goal.length y3) ∧ Below w.heap.size w w9) := ⟨hM, yj HB8.out hb9⟩); clear hM hb9 hit)
            | (refine wpList_store_row rfl 26 _ _ rfl w9.heap.size _ rfl rfl 26 _ (heap_alloc_new _ _) (zE _ _ _ _) (by rfl) (by kernel_rfl) ?_; rw [xj]; obtain ⟨W10, hW10⟩ : ∃ W10, w9.alloc (.cells #[.slice x1 n.vars.length y1, .slice x2 n.cons.length y2, .bool n.has, .slice x3 n.goal.length y3] 26) = W10 := ⟨_, rfl⟩; obtain ⟨G2, hG2⟩ : ∃ G2, w9.heap.size = G2 := ⟨_, rfl⟩; rw [hW10]; try rw [hG2]; (have H10' : Hid (Below w9.heap.size w9 W10 ∧ W10.heap[G2]? = some (.cells #[.slice x1 n.vars.length y1, .slice x2 n.cons.length y2, .bool n.has, .slice x3 n.goal.length y3] 26 (0, 0))) := ⟨(by rw [← hW10]; exact xX _ _), (by rw [← hW10, ← hG2]; exact heap_alloc_new w9 _)⟩); obtain ⟨q0, q1, q2, q3⟩ := yN H10'.out.2 (Below.refl _ _); clear hW10 hG2))
          go_ret
          exact YA (yj H9.out.2 H10'.out.1)
      · have h0' : (e1 == 0) = false := by simp [h0]
        clear h0 hqb HP1
        by_cases h9 : e0 = 0
        · have H0 : Hid (e0 = 0) := h9
          have hcc : (c2 == 0) = true := by simp [HRt.out h9]
          clear h9
          go_wp2_with (first
            | (go_at_call 10; refine cZ H10.out ?_; rintro e w' ⟨rfl, hww⟩; rw [hww]; clear hww)
            | (go_at_call 11; refine cZ (HKn.out w3 (zJ HW.out HB3.out)) ?_; rintro e w4 ⟨rfl, hb4⟩; (have HB4 : Hid (Below w3.heap.size w3 w4 ∧ Below w.heap.size w w4) := ⟨hb4, yj HB3.out hb4⟩); obtain ⟨p0, p1, p2, p3⟩ := yN HN3.out hb4; clear hb4)
            | (go_at_call 12; refine cZ (HPr.out w4 HB4.out.2) ?_; rintro e w5 ⟨rfl, hb5⟩; (have HB5 : Hid (Below w3.heap.size w3 w5 ∧ Below w.heap.size w w5) := ⟨yj HB4.out.1 hb5, yj HB4.out.2 hb5⟩); clear hb5 p0 p1 p2 p3)
            | (go_at_call 13; refine cZ (HPs.out w5 (zJ HW.out HB5.out.2)) ?_; rintro e w9 ⟨x1, y1, x2, y2, x3, y3, it2, j0, rfl, hM, hb9, hit, _⟩; (have hit' : it2 = .nilIface := hit.elim (fun h => h.2) (fun h => absurd H0.out h.1)); subst hit'; (have H9 : Hid (MoAt w9 n (.slice x1 n.vars.length y1) (.slice x2 n.cons.length y2) (.slice x3 n.goal.length y3) ∧ Below w.heap.size w w9) := ⟨hM, yj HB5.out.2 hb9⟩); clear hM hb9 hit)
            | (refine wpList_store_row rfl 26 _ _ rfl w9.heap.size _ rfl rfl 26 _ (heap_alloc_new _ _) (zE _ _ _ _) (by rfl) (by kernel_rfl) ?_; rw [xj]; obtain ⟨W10, hW10⟩ : ∃ W10, w9.alloc (.cells #[.slice x1 n.vars.length y1, .slice x2 n.cons.length y2, .bool n.has, .slice x3 n.goal.length y3] 26) = W10 := ⟨_, rfl⟩; obtain ⟨G2, hG2⟩ : ∃ G2, w9.heap.size = G2 := ⟨_, rfl⟩; rw [hW10]; try rw [hG2]; (have H10' : Hid (Below w9.heap.size w9 W10 ∧ W10.heap[G2]? = some (.cells #[.slice x1 n.vars.length y1, .slice x2 n.cons.length y2, .bool n.has, .slice x3 n.goal.length y3] 26 (0, 0))) := ⟨(by rw [← hW10]; exact xX _ _), (by rw [← hW10, ← hG2]; exact heap_alloc_new w9 _)⟩); obtain ⟨q0, q1, q2, q3⟩ := yN H10'.out.2 (Below.refl _ _); clear hW10 hG2)
            | (go_at_call 15; refine cZ (HCk.out W10 _ _ _ (H9.out.1.below H10'.out.1)) ?_; rintro e w11 ⟨rfl, hb11⟩; (have HB11 : Hid (Below w.heap.size w w11) := yj (yj H9.out.2 H10'.out.1) hb11); clear hb11 q0 q1 q2 q3))
          go_ret
          exact YA HB11.out
        · have H0 : Hid (e0 ≠ 0) := h9
          clear h9
          go_wp2_with (first
            | (go_at_call 10; refine cZ H10.out ?_; rintro e w' ⟨rfl, hww⟩; rw [hww]; clear hww)
            | (go_at_call 11; refine cZ (HKn.out w3 (zJ HW.out HB3.out)) ?_; rintro e w4 ⟨rfl, hb4⟩; (have HB4 : Hid (Below w3.heap.size w3 w4 ∧ Below w.heap.size w w4) := ⟨hb4, yj HB3.out hb4⟩); obtain ⟨p0, p1, p2, p3⟩ := yN HN3.out hb4; clear hb4)
            | (go_at_call 12; refine cZ (HPr.out w4 HB4.out.2) ?_; rintro e w5 ⟨rfl, hb5⟩; (have HB5 : Hid (Below w3.heap.size w3 w5 ∧ Below w.heap.size w w5) := ⟨yj HB4.out.1 hb5, yj HB4.out.2 hb5⟩); clear hb5 p0 p1 p2 p3)
            | (go_at_call 13; refine cZ (HPs.out w5 (zJ HW.out HB5.out.2)) ?_; rintro e w9 ⟨x1, y1, x2, y2, x3, y3, it2, j0, rfl, hM, hb9, hit, _⟩; obtain ⟨F, hit'⟩ := (hit.resolve_left (fun h => H0.out h.1)).2; subst hit'; (have H9 : Hid (MoAt w9 n (.slice x1 n.vars.length y1) (.slice x2 n.cons.length y2) (.slice x3 n.goal.length y3) ∧ Below w.heap.size w w9) := ⟨hM, yj HB5.out.2 hb9⟩); clear hM hb9 hit)
            | (refine wpList_store_row rfl 26 _ _ rfl w9.heap.size _ rfl rfl 26 _ (heap_alloc_new _ _) (zE _ _ _ _) (by rfl) (by kernel_rfl) ?_; rw [xj]; obtain ⟨W10, hW10⟩ : ∃ W10, w9.alloc (.cells #[.slice x1 n.vars.length y1, .slice x2 n.cons.length y2, .bool n.has, .slice x3 n.goal.length y3] 26) = W10 := ⟨_, rfl⟩; obtain ⟨G2, hG2⟩ : ∃ G2, w9.heap.size = G2 := ⟨_, rfl⟩; rw [hW10]; try rw [hG2]; (have H10' : Hid (Below w9.heap.size w9 W10 ∧ W10.heap[G2]? = some (.cells #[.slice x1 n.vars.length y1, .slice x2 n.cons.length y2, .bool n.has, .slice x3 n.goal.length y3] 26 (0, 0))) := ⟨(by rw [← hW10]; exact xX _ _), (by rw [← hW10, ← hG2]; exact heap_alloc_new w9 _)⟩); obtain ⟨q0, q1, q2, q3⟩ := yN H10'.out.2 (Below.refl _ _); clear hW10 hG2))
          go_ret
          exact YA (yj H9.out.2 H10'.out.1)
end Go.Proofs.YthohnmplbjhjaaaGreatDoor
