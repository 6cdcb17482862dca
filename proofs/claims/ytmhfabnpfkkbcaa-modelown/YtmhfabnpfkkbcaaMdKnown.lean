/-
  The chapter's examples.
-/
import Derived.Test.YtmhfabnpfkkbcaaMdKnB
import Derived.Deep.RegionHeld3
import Derived.Deep.CutRange
namespace Go.Proofs.Ytmhfabnpfkkbcaa
open Go.RowKit

set_option maxRecDepth 10000 in
set_option maxHeartbeats 1000000 in
theorem known_any (w : World) : Calls Try.prog 7 #[] w fun e w' => e = .returned (.bool true) ∧ Below w.heap.size w w' := by
  go_enter Try.func7, Try.ntmps7
  go_wp2_with fail
  obtain ⟨W, hW⟩ : ∃ W, ((((((w.alloc (.cells #[.int .i64 2, .int .i64 0, .int .i64 (-1), .int .i64 1] 35)).alloc (.cells #[.int .i64 1, .int .i64 1, .slice (some ⟨w.heap.size, 0, none⟩) 2 2, .int .i64 4, .int .i64 0, .int .i64 0, .int .i64 0, .slice none 0 0, .slice none 0 0, .slice none 0 0] 40)).alloc (.cells #[.int .i64 2, .int .i64 0, .slice none 0 0, .int .i64 1, .int .i64 0, .int .i64 0, .int .i64 1, .slice none 0 0, .slice none 0 0, .slice none 0 0] 40)).alloc (.cells #[.int .i64 2, .int .i64 0] 3)).alloc (.cells #[.int .i64 4, .int .i64 0, .slice none 0 0, .int .i64 0, .int .i64 0, .int .i64 0, .int .i64 1, .slice none 0 0, .slice (some ⟨w.heap.size + 1 + 1 + 1, 0, none⟩) 2 2, .slice none 0 0] 40)).alloc (.cells #[.int .i64 1, .int .i64 0, .int .i64 1, .int .i64 1] 35)).alloc (.cells #[.int .i64 7, .int .i64 0, .slice (some ⟨w.heap.size + 1 + 1 + 1 + 1 + 1, 0, none⟩) 2 2, .int .i64 1, .int .i64 0, .int .i64 0, .int .i64 0, .slice none 0 0, .slice none 0 0, .slice none 0 0] 40) = W := ⟨_, rfl⟩
  rw [hW]
  obtain ⟨hb0, ⟨b1, b2, b4, b6⟩, c1, c2, c4, c6⟩ := known_lay hW
  have HB : Hid (Below w.heap.size w W) := hb0
  have hs : w.heap.size + 1 + 1 + 1 + 1 + 1 + 1 + 1 = W.heap.size := by rw [← hW]; simp
  rw [hs]
  clear hW hb0 hs
  have HLin : Hid (∀ w', Below W.heap.size W w' → w'.heap[w.heap.size + 1]? = some (.cells #[.int .i64 1, .int .i64 1, .slice (some ⟨w.heap.size, 0, none⟩) 2 2, .int .i64 4, .int .i64 0, .int .i64 0, .int .i64 0, .slice none 0 0, .slice none 0 0, .slice none 0 0] 40)) := fun w' hb => (hb.block _ (Array.getElem?_eq_some_iff.1 b1).1).trans b1
  have HNe : Hid (∀ w', Below W.heap.size W w' → w'.heap[w.heap.size + 1 + 1]? = some (.cells #[.int .i64 2, .int .i64 0, .slice none 0 0, .int .i64 1, .int .i64 0, .int .i64 0, .int .i64 1, .slice none 0 0, .slice none 0 0, .slice none 0 0] 40)) := fun w' hb => (hb.block _ (Array.getElem?_eq_some_iff.1 b2).1).trans b2
  have HEl : Hid (∀ w', Below W.heap.size W w' → w'.heap[w.heap.size + 1 + 1 + 1 + 1]? = some (.cells #[.int .i64 4, .int .i64 0, .slice none 0 0, .int .i64 0, .int .i64 0, .int .i64 0, .int .i64 1, .slice none 0 0, .slice (some ⟨w.heap.size + 1 + 1 + 1, 0, none⟩) 2 2, .slice none 0 0] 40)) := fun w' hb => (hb.block _ (Array.getElem?_eq_some_iff.1 b4).1).trans b4
  have HRf : Hid (∀ w', Below W.heap.size W w' → w'.heap[w.heap.size + 1 + 1 + 1 + 1 + 1 + 1]? = some (.cells #[.int .i64 7, .int .i64 0, .slice (some ⟨w.heap.size + 1 + 1 + 1 + 1 + 1, 0, none⟩) 2 2, .int .i64 1, .int .i64 0, .int .i64 0, .int .i64 0, .slice none 0 0, .slice none 0 0, .slice none 0 0] 40)) := fun w' hb => (hb.block _ (Array.getElem?_eq_some_iff.1 b6).1).trans b6
  have C0 : Hid (∀ w', Below W.heap.size W w' → Calls Try.prog 13 #[.agg #[.int .i64 1, .int .i64 1, .slice (some ⟨w.heap.size, 0, none⟩) 2 2, .int .i64 4, .int .i64 0, .int .i64 0, .int .i64 0, .slice none 0 0, .slice none 0 0, .slice none 0 0], .slice (some ⟨w'.heap.size, 0, none⟩) 2 2] (w'.alloc (.cells #[.int .i64 2, .int .i64 0] 3)) fun e w'' => e = .returned (.bool true) ∧ Below W.heap.size W w'') := fun w' hb => holds_at 2 0 true kh0 c1 rfl hb
  have C1 : Hid (∀ w', Below W.heap.size W w' → Calls Try.prog 13 #[.agg #[.int .i64 1, .int .i64 1, .slice (some ⟨w.heap.size, 0, none⟩) 2 2, .int .i64 4, .int .i64 0, .int .i64 0, .int .i64 0, .slice none 0 0, .slice none 0 0, .slice none 0 0], .slice (some ⟨w'.heap.size, 0, none⟩) 2 2] (w'.alloc (.cells #[.int .i64 3, .int .i64 2] 3)) fun e w'' => e = .returned (.bool true) ∧ Below W.heap.size W w'') := fun w' hb => holds_at 3 2 true kh1 c1 rfl hb
  have C2 : Hid (∀ w', Below W.heap.size W w' → Calls Try.prog 13 #[.agg #[.int .i64 2, .int .i64 0, .slice none 0 0, .int .i64 1, .int .i64 0, .int .i64 0, .int .i64 1, .slice none 0 0, .slice none 0 0, .slice none 0 0], .slice (some ⟨w'.heap.size, 0, none⟩) 2 2] (w'.alloc (.cells #[.int .i64 0, .int .i64 1] 3)) fun e w'' => e = .returned (.bool true) ∧ Below W.heap.size W w'') := fun w' hb => holds_at 0 1 true kh2 c2 rfl hb
  have C3 : Hid (∀ w', Below W.heap.size W w' → Calls Try.prog 13 #[.agg #[.int .i64 4, .int .i64 0, .slice none 0 0, .int .i64 0, .int .i64 0, .int .i64 0, .int .i64 1, .slice none 0 0, .slice (some ⟨w.heap.size + 1 + 1 + 1, 0, none⟩) 2 2, .slice none 0 0], .slice (some ⟨w'.heap.size, 0, none⟩) 2 2] (w'.alloc (.cells #[.int .i64 1, .int .i64 0] 3)) fun e w'' => e = .returned (.bool true) ∧ Below W.heap.size W w'') := fun w' hb => holds_at 1 0 true kh3 c4 rfl hb
  have C4 : Hid (∀ w', Below W.heap.size W w' → Calls Try.prog 13 #[.agg #[.int .i64 7, .int .i64 0, .slice (some ⟨w.heap.size + 1 + 1 + 1 + 1 + 1, 0, none⟩) 2 2, .int .i64 1, .int .i64 0, .int .i64 0, .int .i64 0, .slice none 0 0, .slice none 0 0, .slice none 0 0], .slice (some ⟨w'.heap.size, 0, none⟩) 2 2] (w'.alloc (.cells #[.int .i64 1, .int .i64 0] 3)) fun e w'' => e = .returned (.bool true) ∧ Below W.heap.size W w'') := fun w' hb => holds_at 1 0 true kh4 c6 rfl hb
  have C5 : Hid (∀ w', Below W.heap.size W w' → Calls Try.prog 13 #[.agg #[.int .i64 1, .int .i64 1, .slice (some ⟨w.heap.size, 0, none⟩) 2 2, .int .i64 4, .int .i64 0, .int .i64 0, .int .i64 0, .slice none 0 0, .slice none 0 0, .slice none 0 0], .slice (some ⟨w'.heap.size, 0, none⟩) 2 2] (w'.alloc (.cells #[.int .i64 3, .int .i64 1] 3)) fun e w'' => e = .returned (.bool false) ∧ Below W.heap.size W w'') := fun w' hb => holds_at 3 1 false kh5 c1 rfl hb
  have C6 : Hid (∀ w', Below W.heap.size W w' → Calls Try.prog 13 #[.agg #[.int .i64 2, .int .i64 0, .slice none 0 0, .int .i64 1, .int .i64 0, .int .i64 0, .int .i64 1, .slice none 0 0, .slice none 0 0, .slice none 0 0], .slice (some ⟨w'.heap.size, 0, none⟩) 2 2] (w'.alloc (.cells #[.int .i64 1, .int .i64 0] 3)) fun e w'' => e = .returned (.bool false) ∧ Below W.heap.size W w'') := fun w' hb => holds_at 1 0 false kh6 c2 rfl hb
  have C7 : Hid (∀ w', Below W.heap.size W w' → Calls Try.prog 13 #[.agg #[.int .i64 4, .int .i64 0, .slice none 0 0, .int .i64 0, .int .i64 0, .int .i64 0, .int .i64 1, .slice none 0 0, .slice (some ⟨w.heap.size + 1 + 1 + 1, 0, none⟩) 2 2, .slice none 0 0], .slice (some ⟨w'.heap.size, 0, none⟩) 2 2] (w'.alloc (.cells #[.int .i64 2, .int .i64 2] 3)) fun e w'' => e = .returned (.bool false) ∧ Below W.heap.size W w'') := fun w' hb => holds_at 2 2 false kh7 c4 rfl hb
  have C8 : Hid (∀ w', Below W.heap.size W w' → Calls Try.prog 13 #[.agg #[.int .i64 7, .int .i64 0, .slice (some ⟨w.heap.size + 1 + 1 + 1 + 1 + 1, 0, none⟩) 2 2, .int .i64 1, .int .i64 0, .int .i64 0, .int .i64 0, .slice none 0 0, .slice none 0 0, .slice none 0 0], .slice (some ⟨w'.heap.size, 0, none⟩) 2 2] (w'.alloc (.cells #[.int .i64 0, .int .i64 1] 3)) fun e w'' => e = .returned (.bool false) ∧ Below W.heap.size W w'') := fun w' hb => holds_at 0 1 false kh8 c6 rfl hb
  have C9 : Hid (∀ w', Below W.heap.size W w' → Calls Try.prog 13 #[.agg #[.int .i64 7, .int .i64 0, .slice (some ⟨w.heap.size + 1 + 1 + 1 + 1 + 1, 0, none⟩) 2 2, .int .i64 1, .int .i64 0, .int .i64 0, .int .i64 0, .slice none 0 0, .slice none 0 0, .slice none 0 0], .slice (some ⟨w'.heap.size, 0, none⟩) 2 2] (w'.alloc (.cells #[.int .i64 2, .int .i64 2] 3)) fun e w'' => e = .returned (.bool false) ∧ Below W.heap.size W w'') := fun w' hb => holds_at 2 2 false kh9 c6 rfl hb
  obtain ⟨⟨p0, p1, p2, p3, p4, p5, p6, p7, p8, p9⟩, _⟩ := box10 b1
  clear b1 b2 b4 b6 c1 c2 c4 c6
  have hB0 : Hid (Below W.heap.size W W) := Below.refl _ _
  refine calls_at (C0.out W hB0.out) (by with_reducible rfl) (by with_reducible rfl) ?_
  rintro e w1 ⟨rfl, h1⟩
  have hB1 : Hid (Below W.heap.size W w1) := h1
  clear h1
  obtain ⟨⟨q0_0, q0_1, q0_2, q0_3, q0_4, q0_5, q0_6, q0_7, q0_8, q0_9⟩, _⟩ := box10 (HLin.out w1 hB1.out)
  go_wp2_with fail
  refine calls_at (C1.out w1 hB1.out) (by with_reducible rfl) (by with_reducible rfl) ?_
  rintro e w2 ⟨rfl, h2⟩
  have hB2 : Hid (Below W.heap.size W w2) := h2
  clear h2
  obtain ⟨⟨q1_0, q1_1, q1_2, q1_3, q1_4, q1_5, q1_6, q1_7, q1_8, q1_9⟩, _⟩ := box10 (HNe.out w2 hB2.out)
  go_wp2_with fail
  refine calls_at (C2.out w2 hB2.out) (by with_reducible rfl) (by with_reducible rfl) ?_
  rintro e w3 ⟨rfl, h3⟩
  have hB3 : Hid (Below W.heap.size W w3) := h3
  clear h3
  obtain ⟨⟨q2_0, q2_1, q2_2, q2_3, q2_4, q2_5, q2_6, q2_7, q2_8, q2_9⟩, _⟩ := box10 (HEl.out w3 hB3.out)
  go_wp2_with fail
  refine calls_at (C3.out w3 hB3.out) (by with_reducible rfl) (by with_reducible rfl) ?_
  rintro e w4 ⟨rfl, h4⟩
  have hB4 : Hid (Below W.heap.size W w4) := h4
  clear h4
  obtain ⟨⟨q3_0, q3_1, q3_2, q3_3, q3_4, q3_5, q3_6, q3_7, q3_8, q3_9⟩, _⟩ := box10 (HRf.out w4 hB4.out)
  go_wp2_with fail
  refine calls_at (C4.out w4 hB4.out) (by with_reducible rfl) (by with_reducible rfl) ?_
  rintro e w5 ⟨rfl, h5⟩
  have hB5 : Hid (Below W.heap.size W w5) := h5
  clear h5
  obtain ⟨⟨q4_0, q4_1, q4_2, q4_3, q4_4, q4_5, q4_6, q4_7, q4_8, q4_9⟩, _⟩ := box10 (HLin.out w5 hB5.out)
  go_wp2_with fail
  refine calls_at (C5.out w5 hB5.out) (by with_reducible rfl) (by with_reducible rfl) ?_
  rintro e w6 ⟨rfl, h6⟩
  have hB6 : Hid (Below W.heap.size W w6) := h6
  clear h6
  obtain ⟨⟨q5_0, q5_1, q5_2, q5_3, q5_4, q5_5, q5_6, q5_7, q5_8, q5_9⟩, _⟩ := box10 (HNe.out w6 hB6.out)
  go_wp2_with fail
  refine calls_at (C6.out w6 hB6.out) (by with_reducible rfl) (by with_reducible rfl) ?_
  rintro e w7 ⟨rfl, h7⟩
  have hB7 : Hid (Below W.heap.size W w7) := h7
  clear h7
  obtain ⟨⟨q6_0, q6_1, q6_2, q6_3, q6_4, q6_5, q6_6, q6_7, q6_8, q6_9⟩, _⟩ := box10 (HEl.out w7 hB7.out)
  go_wp2_with fail
  refine calls_at (C7.out w7 hB7.out) (by with_reducible rfl) (by with_reducible rfl) ?_
  rintro e w8 ⟨rfl, h8⟩
  have hB8 : Hid (Below W.heap.size W w8) := h8
  clear h8
  obtain ⟨⟨q7_0, q7_1, q7_2, q7_3, q7_4, q7_5, q7_6, q7_7, q7_8, q7_9⟩, _⟩ := box10 (HRf.out w8 hB8.out)
  go_wp2_with fail
  refine calls_at (C8.out w8 hB8.out) (by with_reducible rfl) (by with_reducible rfl) ?_
  rintro e w9 ⟨rfl, h9⟩
  have hB9 : Hid (Below W.heap.size W w9) := h9
  clear h9
  obtain ⟨⟨q8_0, q8_1, q8_2, q8_3, q8_4, q8_5, q8_6, q8_7, q8_8, q8_9⟩, _⟩ := box10 (HRf.out w9 hB9.out)
  go_wp2_with fail
  refine calls_at (C9.out w9 hB9.out) (by with_reducible rfl) (by with_reducible rfl) ?_
  rintro e w10 ⟨rfl, h10⟩
  have hB10 : Hid (Below W.heap.size W w10) := h10
  clear h10
  go_wp2_with fail
  obtain ⟨X, hX⟩ : ∃ X, ((((((w10.alloc (.cells #[.int .i64 0, .int .i64 1] 3)).alloc (.cells #[.int .i64 0, .int .i64 1] 3)).alloc (.cells #[.int .i64 3, .int .i64 (-1)] 3)).alloc (.cells #[.slice (some ⟨w10.heap.size + 1, 0, none⟩) 2 2, .slice (some ⟨w10.heap.size + 1 + 1, 0, none⟩) 2 2] 27)).alloc (.cells #[.int .i64 8, .int .i64 0, .slice none 0 0, .int .i64 0, .int .i64 0, .int .i64 0, .int .i64 0, .slice (some ⟨w10.heap.size, 0, none⟩) 2 2, .slice none 0 0, .slice (some ⟨w10.heap.size + 1 + 1 + 1, 0, none⟩) 2 2] 40)).alloc (.cells #[.int .i64 0, .int .i64 1, .int .i64 1] 3)).alloc (.cells #[.int .i64 9, .int .i64 2, .slice none 0 0, .int .i64 2, .int .i64 2, .int .i64 0, .int .i64 0, .slice (some ⟨w10.heap.size + 1 + 1 + 1 + 1 + 1, 0, none⟩) 3 3, .slice none 0 0, .slice none 0 0] 40) = X := ⟨_, rfl⟩
  rw [hX]
  obtain ⟨hx0, ⟨d4, d6⟩, e4, e6⟩ := known_layB hX
  have HBX : Hid (Below w.heap.size w X) := (HB.out.trans (hB10.out.mono HB.out.size)).trans (hx0.mono (HB.out.trans (hB10.out.mono HB.out.size)).size)
  have hxs : w10.heap.size + 1 + 1 + 1 + 1 + 1 + 1 + 1 = X.heap.size := by rw [← hX]; simp
  rw [hxs]
  clear hX hx0 hxs
  have HRows : Hid (∀ w', Below X.heap.size X w' → w'.heap[w10.heap.size + 1 + 1 + 1 + 1]? = some (.cells #[.int .i64 8, .int .i64 0, .slice none 0 0, .int .i64 0, .int .i64 0, .int .i64 0, .int .i64 0, .slice (some ⟨w10.heap.size, 0, none⟩) 2 2, .slice none 0 0, .slice (some ⟨w10.heap.size + 1 + 1 + 1, 0, none⟩) 2 2] 40)) := fun w' hb => (hb.block _ (Array.getElem?_eq_some_iff.1 d4).1).trans d4
  have HTimes : Hid (∀ w', Below X.heap.size X w' → w'.heap[w10.heap.size + 1 + 1 + 1 + 1 + 1 + 1]? = some (.cells #[.int .i64 9, .int .i64 2, .slice none 0 0, .int .i64 2, .int .i64 2, .int .i64 0, .int .i64 0, .slice (some ⟨w10.heap.size + 1 + 1 + 1 + 1 + 1, 0, none⟩) 3 3, .slice none 0 0, .slice none 0 0] 40)) := fun w' hb => (hb.block _ (Array.getElem?_eq_some_iff.1 d6).1).trans d6
  have C10 : Hid (∀ w', Below X.heap.size X w' → Calls Try.prog 13 #[.agg #[.int .i64 8, .int .i64 0, .slice none 0 0, .int .i64 0, .int .i64 0, .int .i64 0, .int .i64 0, .slice (some ⟨w10.heap.size, 0, none⟩) 2 2, .slice none 0 0, .slice (some ⟨w10.heap.size + 1 + 1 + 1, 0, none⟩) 2 2], .slice (some ⟨w'.heap.size, 0, none⟩) 2 2] (w'.alloc (.cells #[.int .i64 3, .int .i64 (-1)] 3)) fun e w'' => e = .returned (.bool true) ∧ Below X.heap.size X w'') := fun w' hb => holds_at 3 (-1) true kh10 e4 rfl hb
  have C11 : Hid (∀ w', Below X.heap.size X w' → Calls Try.prog 13 #[.agg #[.int .i64 8, .int .i64 0, .slice none 0 0, .int .i64 0, .int .i64 0, .int .i64 0, .int .i64 0, .slice (some ⟨w10.heap.size, 0, none⟩) 2 2, .slice none 0 0, .slice (some ⟨w10.heap.size + 1 + 1 + 1, 0, none⟩) 2 2], .slice (some ⟨w'.heap.size, 0, none⟩) 2 2] (w'.alloc (.cells #[.int .i64 0, .int .i64 (-1)] 3)) fun e w'' => e = .returned (.bool false) ∧ Below X.heap.size X w'') := fun w' hb => holds_at 0 (-1) false kh11 e4 rfl hb
  have C12 : Hid (∀ w', Below X.heap.size X w' → Calls Try.prog 13 #[.agg #[.int .i64 9, .int .i64 2, .slice none 0 0, .int .i64 2, .int .i64 2, .int .i64 0, .int .i64 0, .slice (some ⟨w10.heap.size + 1 + 1 + 1 + 1 + 1, 0, none⟩) 3 3, .slice none 0 0, .slice none 0 0], .slice (some ⟨w'.heap.size, 0, none⟩) 2 2] (w'.alloc (.cells #[.int .i64 0, .int .i64 2] 3)) fun e w'' => e = .returned (.bool true) ∧ Below X.heap.size X w'') := fun w' hb => holds_at 0 2 true kh12 e6 rfl hb
  have C13 : Hid (∀ w', Below X.heap.size X w' → Calls Try.prog 13 #[.agg #[.int .i64 9, .int .i64 2, .slice none 0 0, .int .i64 2, .int .i64 2, .int .i64 0, .int .i64 0, .slice (some ⟨w10.heap.size + 1 + 1 + 1 + 1 + 1, 0, none⟩) 3 3, .slice none 0 0, .slice none 0 0], .slice (some ⟨w'.heap.size, 0, none⟩) 2 2] (w'.alloc (.cells #[.int .i64 2, .int .i64 2] 3)) fun e w'' => e = .returned (.bool false) ∧ Below X.heap.size X w'') := fun w' hb => holds_at 2 2 false kh13 e6 rfl hb
  clear d4 d6 e4 e6
  have hX10 : Hid (Below X.heap.size X X) := Below.refl _ _
  refine calls_at (C10.out X hX10.out) (by with_reducible rfl) (by with_reducible rfl) ?_
  rintro e w11 ⟨rfl, h11⟩
  have hX11 : Hid (Below X.heap.size X w11) := h11
  clear h11
  obtain ⟨⟨q10_0, q10_1, q10_2, q10_3, q10_4, q10_5, q10_6, q10_7, q10_8, q10_9⟩, _⟩ := box10 (HRows.out w11 hX11.out)
  go_wp2_with fail
  refine calls_at (C11.out w11 hX11.out) (by with_reducible rfl) (by with_reducible rfl) ?_
  rintro e w12 ⟨rfl, h12⟩
  have hX12 : Hid (Below X.heap.size X w12) := h12
  clear h12
  obtain ⟨⟨q11_0, q11_1, q11_2, q11_3, q11_4, q11_5, q11_6, q11_7, q11_8, q11_9⟩, _⟩ := box10 (HTimes.out w12 hX12.out)
  go_wp2_with fail
  refine calls_at (C12.out w12 hX12.out) (by with_reducible rfl) (by with_reducible rfl) ?_
  rintro e w13 ⟨rfl, h13⟩
  have hX13 : Hid (Below X.heap.size X w13) := h13
  clear h13
  obtain ⟨⟨q12_0, q12_1, q12_2, q12_3, q12_4, q12_5, q12_6, q12_7, q12_8, q12_9⟩, _⟩ := box10 (HTimes.out w13 hX13.out)
  go_wp2_with fail
  refine calls_at (C13.out w13 hX13.out) (by with_reducible rfl) (by with_reducible rfl) ?_
  rintro e w14 ⟨rfl, h14⟩
  have hX14 : Hid (Below X.heap.size X w14) := h14
  clear h14
  have HB14 : Hid (Below w.heap.size w w14) := HBX.out.trans (hX14.out.mono HBX.out.size)
  clear p0 p1 p2 p3 p4 p5 p6 p7 p8 p9
  go_wp2_with fail
  refine calls_at (two_any w14) (by with_reducible rfl) (by with_reducible rfl) ?_
  rintro e w15 ⟨rfl, h15⟩
  subst h15
  go_wp2_with fail
  obtain ⟨Y, hY⟩ : ∃ Y, (((w14.alloc (.cells #[.slice (some ⟨w14.heap.size + 1, 0, none⟩) 2 2, .slice none 0 0, .bool true, .slice (some ⟨w14.heap.size + 1 + 1, 0, none⟩) 2 2] 26)).alloc (.cells #[.string ⟨#[120]⟩, .int .i64 0, .int .i64 3, .string ⟨#[121]⟩, .int .i64 (-1), .int .i64 2] 37)).alloc (.cells #[.int .i64 3, .int .i64 0, .int .i64 (-2), .int .i64 1] 35)).alloc (.cells #[.slice (some ⟨w14.heap.size + 1, 0, none⟩) 2 2, .slice none 0 0, .bool true, .slice (some ⟨w14.heap.size + 1 + 1, 0, none⟩) 2 2] 26) = Y := ⟨_, rfl⟩
  rw [hY]
  obtain ⟨hy0, ⟨g1, g2, g3⟩, gm⟩ := known_layC hY
  have HBY : Hid (Below w.heap.size w Y) := HB14.out.trans (hy0.mono HB14.out.size)
  clear hY hy0
  have HMo : Hid (∀ w', Below Y.heap.size Y w' → w'.heap[w14.heap.size + 1 + 1 + 1]? = some (.cells #[.slice (some ⟨w14.heap.size + 1, 0, none⟩) 2 2, .slice none 0 0, .bool true, .slice (some ⟨w14.heap.size + 1 + 1, 0, none⟩) 2 2] 26)) := fun w' hb => (hb.block _ (Array.getElem?_eq_some_iff.1 g3).1).trans g3
  have HVs : Hid (∀ w', Below Y.heap.size Y w' → w'.heap[w14.heap.size + 1]? = some (.cells #[.string ⟨#[120]⟩, .int .i64 0, .int .i64 3, .string ⟨#[121]⟩, .int .i64 (-1), .int .i64 2] 37)) := fun w' hb => (hb.block _ (Array.getElem?_eq_some_iff.1 g1).1).trans g1
  have HGs : Hid (∀ w', Below Y.heap.size Y w' → w'.heap[w14.heap.size + 1 + 1]? = some (.cells #[.int .i64 3, .int .i64 0, .int .i64 (-2), .int .i64 1] 35)) := fun w' hb => (hb.block _ (Array.getElem?_eq_some_iff.1 g2).1).trans g2
  have D0 : Hid (∀ w', Below Y.heap.size Y w' → Calls Try.prog 24 #[.agg #[.slice (some ⟨w14.heap.size + 1, 0, none⟩) 2 2, .slice none 0 0, .bool true, .slice (some ⟨w14.heap.size + 1 + 1, 0, none⟩) 2 2]] w' fun e w'' => e = .returned (.tuple #[.int .i64 0, .int .i64 0]) ∧ Below Y.heap.size Y w'') := fun w' hb => check_at 0 0 km0 gm rfl hb
  have D1 : Hid (∀ w', Below Y.heap.size Y w' → Calls Try.prog 25 #[.agg #[.slice (some ⟨w14.heap.size + 1, 0, none⟩) 2 2, .slice none 0 0, .bool true, .slice (some ⟨w14.heap.size + 1 + 1, 0, none⟩) 2 2], .int .i64 16] w' fun e w'' => e = .returned (.tuple #[.int .i64 16, .bool true]) ∧ Below Y.heap.size Y w'') := fun w' hb => product_at 16 16 true (by decide) (by decide) km1 gm rfl hb
  have D2 : Hid (∀ w', Below Y.heap.size Y w' → Calls Try.prog 25 #[.agg #[.slice (some ⟨w14.heap.size + 1, 0, none⟩) 2 2, .slice none 0 0, .bool true, .slice (some ⟨w14.heap.size + 1 + 1, 0, none⟩) 2 2], .int .i64 15] w' fun e w'' => e = .returned (.tuple #[.int .i64 0, .bool false]) ∧ Below Y.heap.size Y w'') := fun w' hb => product_at 15 0 false (by decide) (by decide) km2 gm rfl hb
  have D3 : Hid (∀ w', Below Y.heap.size Y w' → Calls Try.prog 11 #[.agg #[.slice (some ⟨w14.heap.size + 1, 0, none⟩) 2 2, .slice none 0 0, .bool true, .slice (some ⟨w14.heap.size + 1 + 1, 0, none⟩) 2 2]] w' fun e w'' => e = .returned (.int .i64 (-4)) ∧ Below Y.heap.size Y w'') := fun w' hb => floor_at (-4) km3 gm rfl hb
  have D4 : Hid (∀ w', Below Y.heap.size Y w' → Calls Try.prog 12 #[.agg #[.slice (some ⟨w14.heap.size + 1, 0, none⟩) 2 2, .slice none 0 0, .bool true, .slice (some ⟨w14.heap.size + 1 + 1, 0, none⟩) 2 2]] w' fun e w'' => e = .returned (.int .i64 11) ∧ Below Y.heap.size Y w'') := fun w' hb => ceil_at 11 km4 gm rfl hb
  have D5 : Hid (∀ w', Below Y.heap.size Y w' → Calls Try.prog 9 #[.agg #[.slice (some ⟨w14.heap.size + 1, 0, none⟩) 2 2, .slice none 0 0, .bool true, .slice (some ⟨w14.heap.size + 1 + 1, 0, none⟩) 2 2], .slice (some ⟨w'.heap.size, 0, none⟩) 2 2] (w'.alloc (.cells #[.int .i64 1, .int .i64 2] 3)) fun e w'' => e = .returned (.int .i64 (-1)) ∧ Below Y.heap.size Y w'') := fun w' hb => worth_at 1 2 (-1) km5 gm rfl hb
  have D6 : Hid (∀ w', Below Y.heap.size Y w' → Calls Try.prog 18 #[.agg #[.slice (some ⟨w14.heap.size + 1, 0, none⟩) 2 2, .slice none 0 0, .bool true, .slice (some ⟨w14.heap.size + 1 + 1, 0, none⟩) 2 2], .slice (some ⟨w'.heap.size, 0, none⟩) 2 2] (w'.alloc (.cells #[.int .i64 1, .int .i64 2] 3)) fun e w'' => e = .returned (.bool true) ∧ Below Y.heap.size Y w'') := fun w' hb => solution_at 1 2 true km6 gm rfl hb
  clear g1 g2 g3 gm
  have hY20 : Hid (Below Y.heap.size Y Y) := Below.refl _ _
  refine calls_at (D0.out Y hY20.out) (by with_reducible rfl) (by with_reducible rfl) ?_
  rintro e w21 ⟨rfl, h21⟩
  have hY21 : Hid (Below Y.heap.size Y w21) := h21
  clear h21
  obtain ⟨⟨r0_0, r0_1, r0_2, r0_3⟩, _⟩ := box4 (HMo.out w21 hY21.out)
  go_wp2_with fail
  refine calls_at (D1.out w21 hY21.out) (by with_reducible rfl) (by with_reducible rfl) ?_
  rintro e w22 ⟨rfl, h22⟩
  have hY22 : Hid (Below Y.heap.size Y w22) := h22
  clear h22
  obtain ⟨⟨r1_0, r1_1, r1_2, r1_3⟩, _⟩ := box4 (HMo.out w22 hY22.out)
  go_wp2_with fail
  refine calls_at (D2.out w22 hY22.out) (by with_reducible rfl) (by with_reducible rfl) ?_
  rintro e w23 ⟨rfl, h23⟩
  have hY23 : Hid (Below Y.heap.size Y w23) := h23
  clear h23
  obtain ⟨⟨r2_0, r2_1, r2_2, r2_3⟩, _⟩ := box4 (HMo.out w23 hY23.out)
  go_wp2_with fail
  refine calls_at (D3.out w23 hY23.out) (by with_reducible rfl) (by with_reducible rfl) ?_
  rintro e w24 ⟨rfl, h24⟩
  have hY24 : Hid (Below Y.heap.size Y w24) := h24
  clear h24
  obtain ⟨⟨r3_0, r3_1, r3_2, r3_3⟩, _⟩ := box4 (HMo.out w24 hY24.out)
  go_wp2_with fail
  refine calls_at (D4.out w24 hY24.out) (by with_reducible rfl) (by with_reducible rfl) ?_
  rintro e w25 ⟨rfl, h25⟩
  have hY25 : Hid (Below Y.heap.size Y w25) := h25
  clear h25
  obtain ⟨⟨r4_0, r4_1, r4_2, r4_3⟩, _⟩ := box4 (HMo.out w25 hY25.out)
  go_wp2_with fail
  refine calls_at (D5.out w25 hY25.out) (by with_reducible rfl) (by with_reducible rfl) ?_
  rintro e w26 ⟨rfl, h26⟩
  have hY26 : Hid (Below Y.heap.size Y w26) := h26
  clear h26
  obtain ⟨⟨r5_0, r5_1, r5_2, r5_3⟩, _⟩ := box4 (HMo.out w26 hY26.out)
  go_wp2_with fail
  refine calls_at (D6.out w26 hY26.out) (by with_reducible rfl) (by with_reducible rfl) ?_
  rintro e w27 ⟨rfl, h27⟩
  have hY27 : Hid (Below Y.heap.size Y w27) := h27
  clear h27
  obtain ⟨⟨r6_0, r6_1, r6_2, r6_3⟩, _⟩ := box4 (HMo.out w27 hY27.out)
  have HBW : Hid (Below w.heap.size w w27) := HBY.out.trans (hY27.out.mono HBY.out.size)
  obtain ⟨Z, hZ⟩ : ∃ Z, w27.setCell ⟨w14.heap.size + 1, 0, none⟩ (.string ⟨#[57, 97]⟩) = Z := ⟨_, rfl⟩
  obtain ⟨⟨v0, f0⟩, z3, zm⟩ := known_bad hZ (HVs.out w27 hY27.out) (HGs.out w27 hY27.out) (HMo.out w27 hY27.out) (by omega) (by omega)
  have HBZ : Hid (Below w.heap.size w Z) := by rw [← hZ]; exact HBW.out.setCell (Nat.le_trans HB14.out.size (Nat.le_succ _)) _
  have D7 : Hid (Calls Try.prog 24 #[.agg #[.slice (some ⟨w14.heap.size + 1, 0, none⟩) 2 2, .slice none 0 0, .bool true, .slice (some ⟨w14.heap.size + 1 + 1, 0, none⟩) 2 2]] Z fun e w'' => e = .returned (.tuple #[.int .i64 0, .int .i64 41]) ∧ Below Z.heap.size Z w'') := check_at 0 41 km7 zm rfl (Below.refl _ _)
  obtain ⟨⟨z0, z1, z2, z4⟩, _⟩ := box4 z3
  clear z3 zm
  go_wp2_with fail
  refine calls_at D7.out (by with_reducible rfl) (by with_reducible rfl) ?_
  rintro e w28 ⟨rfl, h28⟩
  go_wp2_with fail
  go_ret
  exact ⟨rfl, HBZ.out.trans (h28.mono HBZ.out.size)⟩
end Go.Proofs.Ytmhfabnpfkkbcaa
