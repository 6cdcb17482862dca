/-
  Put together: TzParse, TzLooseLaw.
-/
import Derived.Test.YthohnmplbjhjaaaGreatDoorTfKnown
import Derived.Test.YthohnmplbjhjaaaGreatDoorJ42
import Derived.Test.YthohnmplbjhjaaaGreatDoorJ05
import Derived.Test.YthohnmplbjhjaaaGreatDoorJ45
namespace Go.Proofs.YthohnmplbjhjaaaGreatDoor
open Go Go.RowKit Go.Shelf Go.Lib

/-- A text's answer: its parts. -/
theorem parse_parts {s : List UInt8} (hs : s.length ≤ 70000) : (((parseT s).2.1 = 0 ∧ (parseT s).2.2 = 0) ∨ ((parseT s).2.2 ≠ 0 ∧ (parseT s).1 = zm)) ∧ 0 ≤ (parseT s).2.1 ∧ (parseT s).2.1 ≤ 100000 := by
  have hn := lines_count s []
  by_cases hl : 65536 < s.length
  · have : parseT s = (zm, (1, 50)) := by unfold parseT; rw [if_pos hl]
    rw [this]
    exact ⟨.inr ⟨(by decide : (50 : Int) ≠ 0), rfl⟩, by simp, by simp⟩
  · rw [parse_fin hl]
    obtain ⟨g, hg⟩ : ∃ g, goT (linesT s []) 1 zm = g := ⟨_, rfl⟩
    rw [hg]
    obtain ⟨m, o⟩ := g
    cases o with
    | none =>
      unfold finT
      simp only
      split
      · exact ⟨.inr ⟨(by decide : (59 : Int) ≠ 0), rfl⟩, by simp, by simp; omega⟩
      · exact ⟨.inl ⟨rfl, rfl⟩, by simp, by simp⟩
    | some p =>
      obtain ⟨i, e⟩ := p
      obtain ⟨h1, h2, _, h4⟩ := goT_take _ 1 zm m i e hg
      exact ⟨.inr ⟨h4, rfl⟩, by simp [finT], by simp [finT]; omega⟩
/-- A problem, and what errors.As makes of the error. -/
def PoA (r : Md.Mo × (Int × Int)) (w : World) (e : Ending) (w' : World) : Prop :=
  ∃ a1 c1 a2 c2 a3 c3 it i0, e = .returned (.tuple #[.agg #[.slice a1 r.1.vars.length c1, .slice a2 r.1.cons.length c2, .bool r.1.has, .slice a3 r.1.goal.length c3], it]) ∧ MoAt w' r.1 (.slice a1 r.1.vars.length c1) (.slice a2 r.1.cons.length c2) (.slice a3 r.1.goal.length c3) ∧ Below w.heap.size w w' ∧
    ((r.2.2 = 0 ∧ it = .nilIface) ∨ (r.2.2 ≠ 0 ∧ ∃ F, it = .iface 91 (.pointer (some ⟨F, 0, none⟩)))) ∧
    ∀ w2, Below w'.heap.size w' w2 → Calls Tryz.prog 17 #[it] w2 fun e w3 => e = .returned (.tuple #[.agg #[.int .i64 i0, .int .i64 r.2.1, .int .i64 r.2.2], .bool true]) ∧ Below w2.heap.size w2 w3
theorem zm_at (w : World) : MoAt w zm (.slice none 0 0) (.slice none 0 0) (.slice none 0 0) := by
  refine ⟨⟨none, 0, rfl, by simp [zm], fun x hx => by simp [zm] at hx, fun h => absurd h (by simp [zm])⟩, fun a n cp e => ?_, ⟨none, 0, rfl, by simp [zm], fun h => absurd h (by simp [zm])⟩, ⟨none, 0, rfl, by simp [zm], fun h => absurd h (by simp [zm])⟩⟩
  injection e with _ e2 e3
  omega
theorem parse_a (s : List UInt8) (w : World) (hw : Way w w) (hs : s.length ≤ 70000) : Calls Tryz.prog 13 #[.string (txtOf s)] w (PoA (parseT s) w) := by
  refine (parse_any s w hw (by omega)).mono fun e w' hp => ?_
  obtain ⟨hb, hp⟩ := hp
  obtain ⟨hpp, _, _⟩ := parse_parts hs
  rcases hp with ⟨h0, _, vv, vc, vg, rfl, hM⟩ | ⟨h0, F, rfl, hF, _⟩
  · obtain ⟨a1, c1, a2, c2, a3, c3, rfl, rfl, rfl⟩ := kn_form hM
    have h1 : (parseT s).2.1 = 0 := by rcases hpp with h | h; exact h.1; exact absurd h0 h.1
    refine ⟨a1, c1, a2, c2, a3, c3, .nilIface, 0, rfl, hM, hb, .inl ⟨h0, rfl⟩, fun w2 _ => ?_⟩
    rw [h0, h1]
    exact law_none w2
  · have h1 : (parseT s).1 = zm := by rcases hpp with h | h; exact absurd h.2 h0; exact h.2
    rw [show (parseT s) = (zm, (parseT s).2) from Prod.ext h1 rfl]
    exact ⟨none, 0, none, 0, none, 0, _, 1, rfl, zm_at w', hb, .inr ⟨h0, F, rfl⟩, fun w2 hb2 => law_fault F _ _ w2 ((hb2.block F (Array.getElem?_eq_some_iff.1 hF).1).trans hF) h0⟩
end Go.Proofs.YthohnmplbjhjaaaGreatDoor

namespace Go.Proofs.YthohnmplbjhjaaaGreatDoor
open Go Go.RowKit Go.Shelf Go.Lib

theorem row_in {w w' : World} {N : Nat} {c : Array Value} {t : TypeId} (h : w.heap[N]? = some (.cells c t (0, 0))) (hb : Below w.heap.size w w') : w'.heap[N]? = some (.cells c t (0, 0)) := (hb.block N (Array.getElem?_eq_some_iff.1 h).1).trans h
theorem be_alloc (w : World) (o : Obj) : Below w.heap.size w (w.alloc o) := (Below.refl _ _).alloc (Nat.le_refl _) o

set_option maxRecDepth 100000 in
set_option maxHeartbeats 4000000 in
theorem textLoose_any (s : List UInt8) (w : World) (hw : Way w w) (hkn : ∀ w, Way w w → Calls Tryz.prog 11 #[] w (KnO w)) : Calls Tryz.prog 4 #[.string (txtOf s)] w (KnO w) := by
  have hsz : (txtOf s).size = s.length := txt_size s
  by_cases hs : 6000 < s.length
  · have h1 : decide (6000 < ((txtOf s).size : Int)) = true := by rw [hsz]; exact decide_eq_true (by omega)
    obtain ⟨X, hX⟩ : ∃ X, txtOf s = X := ⟨_, rfl⟩
    rw [hX] at h1 ⊢
    clear hX hs hsz hkn hw
    go_enter Tryz.func4, Tryz.ntmps4
    go_wp2_with fail
    go_ret
    exact ⟨rfl, Below.refl _ _⟩
  · have h1 : decide (6000 < ((txtOf s).size : Int)) = false := by rw [hsz]; exact decide_eq_false (by omega)
    have HKn : Hid (Calls Tryz.prog 11 #[] w (KnO w)) := hkn w hw
    have HW : Hid (Way w w) := hw
    have HLo : Hid (∀ w, Calls Tryz.prog 16 #[.string (txtOf s)] w fun e w' => e = .returned (.string (txtOf (looseT s))) ∧ w = w') := fun w => loose_any s w (by omega)
    have hlz : (txtOf (looseT s)).size = (looseT s).length := txt_size _
    by_cases hl : 65536 < (looseT s).length
    · have h2 : decide (65536 < ((txtOf (looseT s)).size : Int)) = true := by rw [hlz]; exact decide_eq_true (by omega)
      obtain ⟨X, hX⟩ : ∃ X, txtOf s = X := ⟨_, rfl⟩
      obtain ⟨Y, hY⟩ : ∃ Y, txtOf (looseT s) = Y := ⟨_, rfl⟩
      rw [hX] at h1 HLo ⊢
      rw [hY] at h2 HLo
      clear hX hY hs hsz hkn hw hlz hl
      go_enter Tryz.func4, Tryz.ntmps4
      go_wp2_with (first
        | (go_at_call 11; refine calls_at HKn.out (by with_reducible rfl) (by with_reducible rfl) ?_; rintro e w1 ⟨rfl, hb1⟩; (have HB1 : Hid (Below w.heap.size w w1) := hb1); clear hb1)
        | (go_at_call 16; refine calls_at (HLo.out _) (by with_reducible rfl) (by with_reducible rfl) ?_; rintro e w2 ⟨rfl, rfl⟩))
      go_ret
      exact ⟨rfl, HB1.out⟩
    · have h2 : decide (65536 < ((txtOf (looseT s)).size : Int)) = false := by rw [hlz]; exact decide_eq_false (by omega)
      have hlp := loose_parse (s := s) (by omega) (by omega)
      obtain ⟨hpp, hp0, hp1⟩ := parse_parts (s := s) (by omega)
      have HPs : Hid (∀ w', Way w' w' → Calls Tryz.prog 13 #[.string (txtOf s)] w' (PoA (parseT s) w')) := fun w' h' => parse_a s w' h' (by omega)
      have HPt : Hid (∀ w', Way w' w' → Calls Tryz.prog 13 #[.string (txtOf (looseT s))] w' (PoA ((parseT s).1, (3 * (parseT s).2.1, (parseT s).2.2)) w')) := fun w' h' => by
        have := parse_a (looseT s) w' h' (by omega)
        rw [hlp] at this
        exact this
      obtain ⟨r, hr⟩ : ∃ r, parseT s = r := ⟨_, rfl⟩
      rw [hr] at HPs HPt hp0 hp1
      obtain ⟨m, n0, e0⟩ := r
      simp only at HPs HPt hp0 hp1
      have HSm : Hid (∀ (w' : World) vv vc vg vv' vc' vg', MoAt w' m vv vc vg → MoAt w' m vv' vc' vg' → Calls Tryz.prog 14 #[.agg #[vv, vc, .bool m.has, vg], .agg #[vv', vc', .bool m.has, vg']] w' fun e w2 => e = .returned (.bool true) ∧ Below w'.heap.size w' w2) := fun w' vv vc vg vv' vc' vg' h h' => (same_any m m vv vc vg vv' vc' vg' w' h h').mono fun e w2 hh => hh.one rfl
      have hw3 : wrap64 (3 * n0) = 3 * n0 := by unfold wrap64; omega
      obtain ⟨X, hX⟩ : ∃ X, txtOf s = X := ⟨_, rfl⟩
      obtain ⟨Y, hY⟩ : ∃ Y, txtOf (looseT s) = Y := ⟨_, rfl⟩
      rw [hX] at h1 HLo HPs ⊢
      rw [hY] at h2 HLo HPt
      clear hX hY hs hsz hkn hw hlz hl hlp hpp hr hp0 hp1
      go_enter Tryz.func4, Tryz.ntmps4
      go_wp2_with (first
        | (go_at_call 11; refine calls_at HKn.out (by with_reducible rfl) (by with_reducible rfl) ?_; rintro e w1 ⟨rfl, hb1⟩; (have HB1 : Hid (Below w.heap.size w w1) := hb1); clear hb1)
        | (go_at_call 16; refine calls_at (HLo.out _) (by with_reducible rfl) (by with_reducible rfl) ?_; rintro e w2 ⟨rfl, rfl⟩)
        | (go_at_call 13; refine calls_at (HPs.out _ (way_below HW.out HB1.out)) (by with_reducible rfl) (by with_reducible rfl) ?_; rintro e w2 ⟨a1, c1, a2, c2, a3, c3, it, i0, rfl, hM, hb2, _, hF⟩; (have HF1 : Hid (∀ w', Below w2.heap.size w2 w' → Calls Tryz.prog 17 #[it] w' fun e w3 => e = .returned (.tuple #[.agg #[.int .i64 i0, .int .i64 n0, .int .i64 e0], .bool true]) ∧ Below w'.heap.size w' w3) := hF); (have HM1 : Hid (MoAt w2 m (.slice a1 m.vars.length c1) (.slice a2 m.cons.length c2) (.slice a3 m.goal.length c3) ∧ Below w.heap.size w w2) := ⟨hM, bl_next HB1.out hb2⟩); clear hM hb2 hF)
        | (refine wpList_store_row rfl 26 _ _ rfl w2.heap.size _ rfl rfl 26 _ (heap_alloc_new _ _) (mo_size _ _ _ _) (by rfl) (by kernel_rfl) ?_; rw [setRow_alloc])
        | (go_at_call 13; obtain ⟨W3, hW3⟩ : ∃ W3, w2.alloc (.cells #[.slice a1 m.vars.length c1, .slice a2 m.cons.length c2, .bool m.has, .slice a3 m.goal.length c3] 26) = W3 := ⟨_, rfl⟩; obtain ⟨G1, hG1⟩ : ∃ G1, w2.heap.size = G1 := ⟨_, rfl⟩; rw [hW3]; try rw [hG1]; (have H3 : Hid (Below w2.heap.size w2 W3 ∧ W3.heap[G1]? = some (.cells #[.slice a1 m.vars.length c1, .slice a2 m.cons.length c2, .bool m.has, .slice a3 m.goal.length c3] 26 (0, 0))) := ⟨(by rw [← hW3]; exact be_alloc _ _), (by rw [← hW3, ← hG1]; exact heap_alloc_new w2 _)⟩); clear hW3 hG1; refine calls_at (HPt.out W3 (way_below HW.out (bl_next HM1.out.2 H3.out.1))) (by with_reducible rfl) (by with_reducible rfl) ?_; rintro e w4 ⟨b1, d1, b2, d2, b3, d3, it2, j0, rfl, hM, hb4, _, hF⟩; (have HF2 : Hid (∀ w', Below w4.heap.size w4 w' → Calls Tryz.prog 17 #[it2] w' fun e w3 => e = .returned (.tuple #[.agg #[.int .i64 j0, .int .i64 (3 * n0), .int .i64 e0], .bool true]) ∧ Below w'.heap.size w' w3) := hF); (have HM2 : Hid (MoAt w4 m (.slice b1 m.vars.length d1) (.slice b2 m.cons.length d2) (.slice b3 m.goal.length d3) ∧ Below w2.heap.size w2 w4 ∧ Below W3.heap.size W3 w4) := ⟨hM, bl_next H3.out.1 hb4, hb4⟩); clear hM hb4 hF)
        | (refine wpList_store_row rfl 26 _ _ rfl w4.heap.size _ rfl rfl 26 _ (heap_alloc_new _ _) (mo_size _ _ _ _) (by rfl) (by kernel_rfl) ?_; rw [setRow_alloc])
        | (go_at_call 17; obtain ⟨W5, hW5⟩ : ∃ W5, w4.alloc (.cells #[.slice b1 m.vars.length d1, .slice b2 m.cons.length d2, .bool m.has, .slice b3 m.goal.length d3] 26) = W5 := ⟨_, rfl⟩; obtain ⟨G2, hG2⟩ : ∃ G2, w4.heap.size = G2 := ⟨_, rfl⟩; rw [hW5]; try rw [hG2]; (have H5 : Hid (Below w4.heap.size w4 W5 ∧ W5.heap[G2]? = some (.cells #[.slice b1 m.vars.length d1, .slice b2 m.cons.length d2, .bool m.has, .slice b3 m.goal.length d3] 26 (0, 0))) := ⟨(by rw [← hW5]; exact be_alloc _ _), (by rw [← hW5, ← hG2]; exact heap_alloc_new w4 _)⟩); clear hW5 hG2; refine calls_at (HF1.out W5 (bl_next HM2.out.2.1 H5.out.1)) (by with_reducible rfl) (by with_reducible rfl) ?_; rintro e w6 ⟨rfl, hb6⟩; (have HB6 : Hid (Below W5.heap.size W5 w6) := hb6); clear hb6)
        | (go_at_call 17; obtain ⟨W7, hW7⟩ : ∃ W7, w6.alloc (.cells #[.int .i64 i0, .int .i64 n0, .int .i64 e0] 44) = W7 := ⟨_, rfl⟩; obtain ⟨G3, hG3⟩ : ∃ G3, w6.heap.size = G3 := ⟨_, rfl⟩; rw [hW7]; try rw [hG3]; (have H7 : Hid (Below W5.heap.size W5 W7 ∧ W7.heap[G3]? = some (.cells #[.int .i64 i0, .int .i64 n0, .int .i64 e0] 44 (0, 0))) := ⟨(by rw [← hW7]; exact bl_alloc HB6.out _), (by rw [← hW7, ← hG3]; exact heap_alloc_new w6 _)⟩); clear hW7 hG3; refine calls_at (HF2.out W7 (bl_next H5.out.1 H7.out.1)) (by with_reducible rfl) (by with_reducible rfl) ?_; rintro e w8 ⟨rfl, hb8⟩; (have HB8 : Hid (Below W7.heap.size W7 w8 ∧ Below W5.heap.size W5 w8 ∧ Below w4.heap.size w4 w8 ∧ Below w2.heap.size w2 w8) := ⟨hb8, bl_next H7.out.1 hb8, bl_next H5.out.1 (bl_next H7.out.1 hb8), bl_next HM2.out.2.1 (bl_next H5.out.1 (bl_next H7.out.1 hb8))⟩); (have HR8 : Hid (w8.heap[G1]? = some (.cells #[.slice a1 m.vars.length c1, .slice a2 m.cons.length c2, .bool m.has, .slice a3 m.goal.length c3] 26 (0, 0)) ∧ w8.heap[G2]? = some (.cells #[.slice b1 m.vars.length d1, .slice b2 m.cons.length d2, .bool m.has, .slice b3 m.goal.length d3] 26 (0, 0)) ∧ w8.heap[G3]? = some (.cells #[.int .i64 i0, .int .i64 n0, .int .i64 e0] 44 (0, 0))) := ⟨row_in (row_in H3.out.2 HM2.out.2.2) HB8.out.2.2.1, row_in H5.out.2 HB8.out.2.1, row_in H7.out.2 hb8⟩); obtain ⟨p0, p1, p2, p3⟩ := box_mo HR8.out.1 (Below.refl _ _); obtain ⟨q0, q1, q2, q3⟩ := box_mo HR8.out.2.1 (Below.refl _ _); have hl1 := (Array.getElem?_eq_some_iff.1 HR8.out.1).1; have hl2 := (Array.getElem?_eq_some_iff.1 HR8.out.2.1).1; clear hb8)
        | (go_at_call 14; obtain ⟨W9, hW9⟩ : ∃ W9, w8.alloc (.cells #[.int .i64 j0, .int .i64 (3 * n0), .int .i64 e0] 44) = W9 := ⟨_, rfl⟩; obtain ⟨G4, hG4⟩ : ∃ G4, w8.heap.size = G4 := ⟨_, rfl⟩; rw [hW9]; try rw [hG4]; (have H9 : Hid (Below w8.heap.size w8 W9 ∧ W9.heap[G4]? = some (.cells #[.int .i64 j0, .int .i64 (3 * n0), .int .i64 e0] 44 (0, 0))) := ⟨(by rw [← hW9]; exact be_alloc _ _), (by rw [← hW9, ← hG4]; exact heap_alloc_new w8 _)⟩); clear p0 p1 p2 p3 q0 q1 q2 q3 hl1 hl2 hW9 hG4; refine calls_at (HSm.out W9 _ _ _ _ _ _ (HM1.out.1.below (bl_next HB8.out.2.2.2 H9.out.1)) (HM2.out.1.below (bl_next HB8.out.2.2.1 H9.out.1))) (by with_reducible rfl) (by with_reducible rfl) ?_; rintro e w10 ⟨rfl, hb10⟩; (have HB10 : Hid (Below w.heap.size w w10) := bl_next HM1.out.2 (bl_next HB8.out.2.2.2 (bl_next H9.out.1 hb10))); have g3 := row_in HR8.out.2.2 (bl_next H9.out.1 hb10); have g4 := row_in H9.out.2 hb10; have f1 := cell_of g3 1; have f2 := cell_of g3 2; have x1 := cell_of g4 1; have x2 := cell_of g4 2; clear g3 g4 hb10))
      go_ret
      exact ⟨rfl, HB10.out⟩
end Go.Proofs.YthohnmplbjhjaaaGreatDoor
