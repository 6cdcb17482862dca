/-
  ModelHolds, as it runs.
-/
import Derived.Test.YtmhfabnpfkkbcaaGreatMdForeign
import Derived.Test.YtmhfabnpfkkbcaaGreatMdHoldAll
import Derived.Test.YtmhfabnpfkkbcaaGreatMdSame1
import Derived.Test.YtmhfabnpfkkbcaaGreatMdCon
import Derived.Test.YtmhfabnpfkkbcaaGreatMdHolds
import Derived.Test.YtmhfabnpfkkbcaaGreatMdGood
import Derived.Test.YtmhfabnpfkkbcaaGreatMdMade
import Derived.Deep.RegionHeld3
namespace Go.Proofs.YtmhfabnpfkkbcaaGreat
open Go.RowKit

set_option maxRecDepth 10000 in
set_option maxHeartbeats 1000000 in
theorem modelHolds_walk (c : Md.Cn) (vt vx vb vr vv : Value) (vs : List Int) (w : World) (hC : CnAt w c vt vx vb vr) (hV : IntsAt w vv vs) : Calls Tryz.prog 4 #[cnVal c vt vx vb vr, vv] w fun e w' => e = .returned (.bool true) ∧ Below w.heap.size w w' := by
  obtain ⟨ta, tc, rfl, _⟩ := hC.t.form
  obtain ⟨xa, xc, rfl, _⟩ := hC.x.form
  obtain ⟨ba, bc, rfl, _⟩ := hC.b.form
  obtain ⟨ra, rc, rfl, _⟩ := hC.r.form
  obtain ⟨va, vc, rfl, hvm⟩ := hV.form
  obtain ⟨W1, hW1⟩ : ∃ W, w.alloc (.cells #[.int .i64 c.kind, .int .i64 c.op, .slice ta c.terms.length tc, .int .i64 c.k, .int .i64 c.v, .int .i64 c.x, .int .i64 c.y, .slice xa c.xs.length xc, .slice ba c.table.length bc, .slice ra c.rows.length rc] 62) = W := ⟨_, rfl⟩
  obtain ⟨W2, hW2⟩ : ∃ W, W1.alloc (.cells #[.int .i64 c.kind, .int .i64 c.op, .slice ta c.terms.length tc, .int .i64 c.k, .int .i64 c.v, .int .i64 c.x, .int .i64 c.y, .slice xa c.xs.length xc, .slice ba c.table.length bc, .slice ra c.rows.length rc] 62) = W := ⟨_, rfl⟩
  have hb1 : Below w.heap.size w W1 := by rw [← hW1]; exact (Below.refl _ _).alloc (Nat.le_refl _) _
  have hb2 : Below W1.heap.size W1 W2 := by rw [← hW2]; exact (Below.refl _ _).alloc (Nat.le_refl _) _
  have hs1 : W1.heap.size = w.heap.size + 1 := by rw [← hW1]; simp
  have hs2 : W2.heap.size = W1.heap.size + 1 := by rw [← hW2]; simp
  have hN1 : W1.heap[w.heap.size]? = some (.cells #[.int .i64 c.kind, .int .i64 c.op, .slice ta c.terms.length tc, .int .i64 c.k, .int .i64 c.v, .int .i64 c.x, .int .i64 c.y, .slice xa c.xs.length xc, .slice ba c.table.length bc, .slice ra c.rows.length rc] 62) := by rw [← hW1]; exact heap_alloc_new w _
  have hN2 : W2.heap[W1.heap.size]? = some (.cells #[.int .i64 c.kind, .int .i64 c.op, .slice ta c.terms.length tc, .int .i64 c.k, .int .i64 c.v, .int .i64 c.x, .int .i64 c.y, .slice xa c.xs.length xc, .slice ba c.table.length bc, .slice ra c.rows.length rc] 62) := by rw [← hW2]; exact heap_alloc_new W1 _
  have hbw2 : Below w.heap.size w W2 := hb1.trans (hb2.mono hb1.size)
  have HFew : Hid (Calls Tryz.prog 5 #[.agg #[.slice none 0 0, .slice (some ⟨W1.heap.size, 0, none⟩) 1 1, .bool false, .slice none 0 0], .slice va vs.length vc] W2 (Few (costC c + vs.length) W2)) := few1_any W1.heap.size c _ _ _ _ va vs.length vc W2 hvm (hC.below hbw2) hN2
  have HBW : Hid (Below w.heap.size w W2) := hbw2
  obtain ⟨⟨p0, p1, p2, p3, p4, p5, p6, p7, p8, p9⟩, _⟩ := box10 hN1
  have HCC : Hid (CnAt w c (.slice ta c.terms.length tc) (.slice xa c.xs.length xc) (.slice ba c.table.length bc) (.slice ra c.rows.length rc)) := hC
  have HVV : Hid (IntsAt w (.slice va vs.length vc) vs) := hV
  have HN1 : Hid (W2.heap[w.heap.size]? = some (.cells #[.int .i64 c.kind, .int .i64 c.op, .slice ta c.terms.length tc, .int .i64 c.k, .int .i64 c.v, .int .i64 c.x, .int .i64 c.y, .slice xa c.xs.length xc, .slice ba c.table.length bc, .slice ra c.rows.length rc] 62)) := (hb2.block _ (by omega)).trans hN1
  unfold cnVal
  clear hC hV hb1 hb2 hbw2 hN1 hN2
  rw [hs1] at HFew
  go_enter Tryz.func4, Tryz.ntmps4
  go_wp2_with fail
  refine calls_at HFew.out (by with_reducible rfl) (by with_reducible rfl) ?_
  rintro e w3 ⟨⟨b, rfl, hcost⟩, hb3⟩
  have HB3 : Hid (Below w.heap.size w w3) := HBW.out.trans (hb3.mono HBW.out.size)
  cases b
  · go_wp2_with fail
    go_ret
    exact ⟨rfl, HB3.out⟩
  have HK : Hid (costC c + vs.length ≤ 20000) := hcost rfl
  have hN3 := (hb3.block w.heap.size (by omega)).trans HN1.out
  clear hcost
  obtain ⟨W4, hW4⟩ : ∃ W, w3.alloc (.cells #[.slice none 0 0, .slice none 0 0, .slice none 0 0, .slice none 0 0, .slice none 0 0, .slice none 0 0, .slice none 0 0, .slice none 0 0, .slice none 0 0, .slice none 0 0, .slice none 0 0, .slice none 0 0, .slice none 0 0, .slice none 0 0, .slice none 0 0, .slice none 0 0, .slice none 0 0, .slice none 0 0, .slice none 0 0, .slice none 0 0, .slice none 0 0, .slice none 0 0, .slice none 0 0, .slice none 0 0, .slice none 0 0, .slice none 0 0, .slice none 0 0, .slice none 0 0] 45) = W := ⟨_, rfl⟩
  have hR4 : RoomAt ety w.heap.size w3.heap.size (lab0 w3.heap.size) (fun _ => []) W4 := by rw [← hW4]; exact room_new w.heap.size w3 HB3.out.size [.slice none 0 0, .slice none 0 0, .slice none 0 0, .slice none 0 0, .slice none 0 0, .slice none 0 0, .slice none 0 0, .slice none 0 0, .slice none 0 0, .slice none 0 0, .slice none 0 0, .slice none 0 0, .slice none 0 0, .slice none 0 0, .slice none 0 0, .slice none 0 0, .slice none 0 0, .slice none 0 0, .slice none 0 0, .slice none 0 0, .slice none 0 0, .slice none 0 0, .slice none 0 0, .slice none 0 0, .slice none 0 0, .slice none 0 0, .slice none 0 0, .slice none 0 0] rfl
  have hb4 : Below w3.heap.size w3 W4 := by rw [← hW4]; exact (Below.refl _ _).alloc (Nat.le_refl _) _
  have hl3 : w.heap.size < w3.heap.size := (Array.getElem?_eq_some_iff.1 hN3).1
  have hN4 := (hb4.block w.heap.size hl3).trans hN3
  have hbw4 : Below w.heap.size w W4 := HB3.out.trans (hb4.mono HB3.out.size)
  have HBW4 : Hid (Below w.heap.size w W4) := hbw4
  have hAll : ∀ wr S', Agree (lab0 w3.heap.size) S' W4 wr → CnAt wr c (.slice ta c.terms.length tc) (.slice xa c.xs.length xc) (.slice ba c.table.length bc) (.slice ra c.rows.length rc) := fun wr S' hA => HCC.out.below (hbw4.trans (hA.below hbw4.size hR4.low))
  have H23 : Hid (Calls Tryz.prog 23 #[.pointer (some ⟨w3.heap.size, 0, none⟩), cnVal c (.slice ta c.terms.length tc) (.slice xa c.xs.length xc) (.slice ba c.table.length bc) (.slice ra c.rows.length rc)] W4 (LaidC w.heap.size w3.heap.size (lab0 w3.heap.size) (fun _ => []) W4 c)) := roomCon_any w.heap.size w3.heap.size (lab0 w3.heap.size) (fun _ => []) c _ _ _ _ W4 hR4 hAll (costC_bounds HK.out).1 (by decide)
  have HR4 : Hid (RoomAt ety w.heap.size w3.heap.size (lab0 w3.heap.size) (fun _ => []) W4) := hR4
  have HN4 : Hid (W4.heap[w.heap.size]? = some (.cells #[.int .i64 c.kind, .int .i64 c.op, .slice ta c.terms.length tc, .int .i64 c.k, .int .i64 c.v, .int .i64 c.x, .int .i64 c.y, .slice xa c.xs.length xc, .slice ba c.table.length bc, .slice ra c.rows.length rc] 62)) := hN4
  clear p0 p1 p2 p3 p4 p5 p6 p7 p8 p9
  obtain ⟨⟨p0, p1, p2, p3, p4, p5, p6, p7, p8, p9⟩, _⟩ := box10 hN4
  unfold cnVal at H23
  clear hb3 hN3 hR4 hb4 hN4 hbw4 hAll hs1 hs2 hW1 hW2
  go_wp2_with fail
  refine calls_at H23.out (by with_reducible rfl) (by with_reducible rfl) ?_
  rintro e w5 ⟨⟨bT, bX, bB, bL, cT, cX, cB, cL, S5, F5, D, M, rfl, hR5, hA5, dT, dX, dB, dL, f0, f1, f4, f5, f16, f17, fn⟩⟩
  unfold cnVal
  have H7 : Hid (Calls Tryz.prog 7 #[.pointer (some ⟨w3.heap.size, 0, none⟩), .slice va vs.length vc] w5 (LaidI w.heap.size w3.heap.size S5 F5 w5 vs 40)) := roomInts_any w.heap.size w3.heap.size S5 F5 _ vs w5 hR5 (HVV.out.below (HBW4.out.trans (hA5.below HBW4.out.size HR4.out.low))) (costC_bounds HK.out).2.1 (by rw [f0]; have := congrArg List.length dL.rows; simp at this; have := (costC_bounds HK.out).2.2; simp; omega) (by rw [f1]; have := congrArg List.length dL.rows; simp at this; have := (costC_bounds HK.out).2.2; simp; omega)
  have HD : Hid (DataT S5 w5 bT c.terms 40 ∧ DataI S5 w5 bX c.xs 40 ∧ DataI S5 w5 bB c.table 40 ∧ DataL S5 w5 bL c.rows D M 40) := ⟨dT, dX, dB, dL⟩
  have HF : Hid ((F5 0 = [.slice (some ⟨bX, 0, none⟩) (c.xs.length + 40) cX, .slice (some ⟨bB, 0, none⟩) (c.table.length + 40) cB] ++ D.map Row1.ent ∧ F5 1 = [.int .i64 (c.xs.length : Int), .int .i64 (c.table.length : Int)] ++ D.map Row1.at_) ∧ F5 4 = [.slice (some ⟨bT, 0, none⟩) (c.terms.length + 40) cT] ∧ F5 5 = [.int .i64 (c.terms.length : Int)] ∧ F5 16 = [.slice (some ⟨bL, 0, none⟩) (c.rows.length + 40) cL] ∧ F5 17 = [.int .i64 (c.rows.length : Int)] ∧ ∀ j, j ≠ 0 → j ≠ 1 → j ≠ 4 → j ≠ 5 → j ≠ 16 → j ≠ 17 → F5 j = []) := ⟨⟨f0, f1⟩, f4, f5, f16, f17, fn⟩
  have HA5 : Hid (Agree (lab0 w3.heap.size) S5 W4 w5) := hA5
  clear hR5 hA5 dT dX dB dL f0 f1 f4 f5 f16 f17 fn
  go_wp2_with fail
  refine calls_at H7.out (by with_reducible rfl) (by with_reducible rfl) ?_
  rintro e w6 ⟨⟨bV, cV, S6, F6, rfl, hbV0, hbV, hlV, hR6, g0, g1, gn, hA6, hcV, _⟩⟩
  have HL2 : Hid (Laid2 w.heap.size w3.heap.size c vs bT bX bB bL bV w6) := laid2_of HK.out hR6 hA6 HD.out.1 HD.out.2.1 HD.out.2.2.1 HD.out.2.2.2 HF.out.1.1 HF.out.1.2 HF.out.2.1 HF.out.2.2.1 HF.out.2.2.2.1 HF.out.2.2.2.2.1 HF.out.2.2.2.2.2 g0 g1 gn hbV hlV hcV
  have hl4 : w.heap.size < W4.heap.size := (Array.getElem?_eq_some_iff.1 HN4.out).1
  have hn0 : lab0 w3.heap.size w.heap.size = 0 := by unfold lab0; rw [if_neg (by omega)]
  have hN5 := (HA5.out.block w.heap.size hl4 hn0).trans HN4.out
  have hN6 := (hA6.block w.heap.size (Nat.lt_of_lt_of_le hl4 HA5.out.size) ((HA5.out.lab _ hl4).trans hn0)).trans hN5
  have hbw6 : Below w.heap.size w w6 := by
    have h5 : Below w.heap.size w w5 := HBW4.out.trans (HA5.out.below HBW4.out.size HR4.out.low)
    exact h5.trans (hA6.below h5.size (fun k hk => (HA5.out.lab k (Nat.lt_of_lt_of_le hk HBW4.out.size)).trans (HR4.out.low k hk)))
  obtain ⟨W8, hW8⟩ : ∃ W, w6.alloc (.cells #[.int .i64 c.kind, .int .i64 c.op, .slice (some ⟨bT, 0, none⟩) c.terms.length (c.terms.length + 40), .int .i64 c.k, .int .i64 c.v, .int .i64 c.x, .int .i64 c.y, .slice (some ⟨bX, 0, none⟩) c.xs.length (c.xs.length + 40), .slice (some ⟨bB, 0, none⟩) c.table.length (c.table.length + 40), .slice (some ⟨bL, 0, none⟩) c.rows.length (c.rows.length + 40)] 62) = W := ⟨_, rfl⟩
  have hb8 : Below w6.heap.size w6 W8 := by rw [← hW8]; exact (Below.refl _ _).alloc (Nat.le_refl _) _
  have hX8 : W8.heap[w6.heap.size]? = some (.cells #[.int .i64 c.kind, .int .i64 c.op, .slice (some ⟨bT, 0, none⟩) c.terms.length (c.terms.length + 40), .int .i64 c.k, .int .i64 c.v, .int .i64 c.x, .int .i64 c.y, .slice (some ⟨bX, 0, none⟩) c.xs.length (c.xs.length + 40), .slice (some ⟨bB, 0, none⟩) c.table.length (c.table.length + 40), .slice (some ⟨bL, 0, none⟩) c.rows.length (c.rows.length + 40)] 62) := by rw [← hW8]; exact heap_alloc_new w6 _
  have hN8 := (hb8.block w.heap.size (Array.getElem?_eq_some_iff.1 hN6).1).trans hN6
  have HAT : Hid (∀ w', Below W8.heap.size W8 w' → w'.heap[w.heap.size]? = some (.cells #[.int .i64 c.kind, .int .i64 c.op, .slice ta c.terms.length tc, .int .i64 c.k, .int .i64 c.v, .int .i64 c.x, .int .i64 c.y, .slice xa c.xs.length xc, .slice ba c.table.length bc, .slice ra c.rows.length rc] 62) ∧ w'.heap[w6.heap.size]? = some (.cells #[.int .i64 c.kind, .int .i64 c.op, .slice (some ⟨bT, 0, none⟩) c.terms.length (c.terms.length + 40), .int .i64 c.k, .int .i64 c.v, .int .i64 c.x, .int .i64 c.y, .slice (some ⟨bX, 0, none⟩) c.xs.length (c.xs.length + 40), .slice (some ⟨bB, 0, none⟩) c.table.length (c.table.length + 40), .slice (some ⟨bL, 0, none⟩) c.rows.length (c.rows.length + 40)] 62) ∧ CnAt w' c (.slice ta c.terms.length tc) (.slice xa c.xs.length xc) (.slice ba c.table.length bc) (.slice ra c.rows.length rc) ∧ CnAt w' c (.slice (some ⟨bT, 0, none⟩) c.terms.length (c.terms.length + 40)) (.slice (some ⟨bX, 0, none⟩) c.xs.length (c.xs.length + 40)) (.slice (some ⟨bB, 0, none⟩) c.table.length (c.table.length + 40)) (.slice (some ⟨bL, 0, none⟩) c.rows.length (c.rows.length + 40)) ∧ IntsAt w' (.slice va vs.length vc) vs ∧ IntsAt w' (.slice (some ⟨bV, 0, none⟩) vs.length (vs.length + 40)) vs ∧ (∃ S F, HoldOk w.heap.size w3.heap.size S F w') ∧ Below w.heap.size w w') := fun w' hb => by
    have hb6 : Below w6.heap.size w6 w' := hb8.trans (hb.mono hb8.size)
    have hbw : Below w.heap.size w w' := hbw6.trans (hb6.mono hbw6.size)
    have L := HL2.out.below hb6
    exact ⟨(hb.block _ (Array.getElem?_eq_some_iff.1 hN8).1).trans hN8, (hb.block _ (Array.getElem?_eq_some_iff.1 hX8).1).trans hX8, HCC.out.below hbw, L.cn, HVV.out.below hbw, L.vals, L.hold, hbw⟩
  clear p0 p1 p2 p3 p4 p5 p6 p7 p8 p9
  obtain ⟨⟨p0, p1, p2, p3, p4, p5, p6, p7, p8, p9⟩, _⟩ := box10 hN8
  have A8 := HAT.out W8 (Below.refl _ _)
  have H24 : Hid (Calls Tryz.prog 24 #[cnVal c (.slice ta c.terms.length tc) (.slice xa c.xs.length xc) (.slice ba c.table.length bc) (.slice ra c.rows.length rc), .slice va vs.length vc] W8 fun e w' => e = .returned (.bool (Md.holds c vs)) ∧ Below W8.heap.size W8 w') := refHolds_any foreign_ok c _ _ _ _ _ vs W8 A8.2.2.1 A8.2.2.2.2.1
  unfold cnVal at H24
  clear hR6 hA6 g0 g1 gn hcV hN5 hN6 hbw6 hb8 hX8 hN8 A8 H7 H23 HFew
  have H25 : Hid (∀ w', CnAt w' c (.slice (some ⟨bT, 0, none⟩) c.terms.length (c.terms.length + 40)) (.slice (some ⟨bX, 0, none⟩) c.xs.length (c.xs.length + 40)) (.slice (some ⟨bB, 0, none⟩) c.table.length (c.table.length + 40)) (.slice (some ⟨bL, 0, none⟩) c.rows.length (c.rows.length + 40)) → IntsAt w' (.slice (some ⟨bV, 0, none⟩) vs.length (vs.length + 40)) vs → Calls Tryz.prog 25 #[cnVal c (.slice (some ⟨bT, 0, none⟩) c.terms.length (c.terms.length + 40)) (.slice (some ⟨bX, 0, none⟩) c.xs.length (c.xs.length + 40)) (.slice (some ⟨bB, 0, none⟩) c.table.length (c.table.length + 40)) (.slice (some ⟨bL, 0, none⟩) c.rows.length (c.rows.length + 40)), .slice (some ⟨bV, 0, none⟩) vs.length (vs.length + 40)] w' fun e w'' => e = .returned (.bool (Md.holds c vs)) ∧ Below w'.heap.size w' w'') := fun w' h1 h2 => Holds_any c _ _ _ _ _ vs w' h1 h2
  unfold cnVal at H25
  generalize Md.holds c vs = B at H24 H25
  cases B
  all_goals
    go_wp2_with fail
    refine calls_at H24.out (by with_reducible rfl) (by with_reducible rfl) ?_
    rintro e w9 ⟨rfl, hb9⟩
    have HB9 : Hid (Below W8.heap.size W8 w9) := hb9
    clear p0 p1 p2 p3 p4 p5 p6 p7 p8 p9 hb9
    obtain ⟨⟨p0, p1, p2, p3, p4, p5, p6, p7, p8, p9⟩, _⟩ := box10 (HAT.out _ HB9.out).2.1
    go_wp2_with fail
    refine calls_at (H25.out w9 (HAT.out _ HB9.out).2.2.2.1 (HAT.out _ HB9.out).2.2.2.2.2.1) (by with_reducible rfl) (by with_reducible rfl) ?_
    rintro e w10 ⟨rfl, hb10⟩
    have HB10 : Hid (Below W8.heap.size W8 w10) := HB9.out.trans (hb10.mono HB9.out.size)
    clear p0 p1 p2 p3 p4 p5 p6 p7 p8 p9 hb10
    obtain ⟨⟨p0, p1, p2, p3, p4, p5, p6, p7, p8, p9⟩, _⟩ := box10 (HAT.out _ HB10.out).2.1
    go_wp2_with fail
    refine calls_at (H25.out w10 (HAT.out _ HB10.out).2.2.2.1 (HAT.out _ HB10.out).2.2.2.2.2.1) (by with_reducible rfl) (by with_reducible rfl) ?_
    rintro e w11 ⟨rfl, hb11⟩
    have HB11 : Hid (Below W8.heap.size W8 w11) := HB10.out.trans (hb11.mono HB10.out.size)
    clear hb11 p0 p1 p2 p3 p4 p5 p6 p7 p8 p9
    go_wp2_with fail
    refine calls_at (sameInts_law _ _ vs w11 (HAT.out _ HB11.out).2.2.2.2.2.1 (HAT.out _ HB11.out).2.2.2.2.1) (by with_reducible rfl) (by with_reducible rfl) ?_
    rintro e w12 ⟨rfl, hb12⟩
    have HB12 : Hid (Below W8.heap.size W8 w12) := HB11.out.trans (hb12.mono HB11.out.size)
    clear hb12
    obtain ⟨⟨p0, p1, p2, p3, p4, p5, p6, p7, p8, p9⟩, _⟩ := box10 (HAT.out _ HB12.out).2.1
    obtain ⟨W13, hW13⟩ : ∃ W, w12.alloc (.cells #[.int .i64 c.kind, .int .i64 c.op, .slice (some ⟨bT, 0, none⟩) c.terms.length (c.terms.length + 40), .int .i64 c.k, .int .i64 c.v, .int .i64 c.x, .int .i64 c.y, .slice (some ⟨bX, 0, none⟩) c.xs.length (c.xs.length + 40), .slice (some ⟨bB, 0, none⟩) c.table.length (c.table.length + 40), .slice (some ⟨bL, 0, none⟩) c.rows.length (c.rows.length + 40)] 62) = W := ⟨_, rfl⟩
    have hb13 : Below w12.heap.size w12 W13 := by rw [← hW13]; exact (Below.refl _ _).alloc (Nat.le_refl _) _
    have hs13 : W13.heap.size = w12.heap.size + 1 := by rw [← hW13]; simp
    have hX13 : W13.heap[w12.heap.size]? = some (.cells #[.int .i64 c.kind, .int .i64 c.op, .slice (some ⟨bT, 0, none⟩) c.terms.length (c.terms.length + 40), .int .i64 c.k, .int .i64 c.v, .int .i64 c.x, .int .i64 c.y, .slice (some ⟨bX, 0, none⟩) c.xs.length (c.xs.length + 40), .slice (some ⟨bB, 0, none⟩) c.table.length (c.table.length + 40), .slice (some ⟨bL, 0, none⟩) c.rows.length (c.rows.length + 40)] 62) := by rw [← hW13]; exact heap_alloc_new w12 _
    have HB13 : Hid (Below W8.heap.size W8 W13) := HB12.out.trans (hb13.mono HB12.out.size)
    obtain ⟨⟨q0, q1, q2, q3, q4, q5, q6, q7, q8, q9⟩, _⟩ := box10 (HAT.out _ HB13.out).1
    obtain ⟨W14, hW14⟩ : ∃ W, W13.alloc (.cells #[.int .i64 c.kind, .int .i64 c.op, .slice ta c.terms.length tc, .int .i64 c.k, .int .i64 c.v, .int .i64 c.x, .int .i64 c.y, .slice xa c.xs.length xc, .slice ba c.table.length bc, .slice ra c.rows.length rc] 62) = W := ⟨_, rfl⟩
    have hb14 : Below W13.heap.size W13 W14 := by rw [← hW14]; exact (Below.refl _ _).alloc (Nat.le_refl _) _
    have HN14 : Hid (W14.heap[w12.heap.size + 1]? = some (.cells #[.int .i64 c.kind, .int .i64 c.op, .slice ta c.terms.length tc, .int .i64 c.k, .int .i64 c.v, .int .i64 c.x, .int .i64 c.y, .slice xa c.xs.length xc, .slice ba c.table.length bc, .slice ra c.rows.length rc] 62)) := by show _ = _; rw [← hs13, ← hW14]; exact heap_alloc_new W13 _
    have HX14 : Hid (W14.heap[w12.heap.size]? = some (.cells #[.int .i64 c.kind, .int .i64 c.op, .slice (some ⟨bT, 0, none⟩) c.terms.length (c.terms.length + 40), .int .i64 c.k, .int .i64 c.v, .int .i64 c.x, .int .i64 c.y, .slice (some ⟨bX, 0, none⟩) c.xs.length (c.xs.length + 40), .slice (some ⟨bB, 0, none⟩) c.table.length (c.table.length + 40), .slice (some ⟨bL, 0, none⟩) c.rows.length (c.rows.length + 40)] 62)) := (hb14.block _ (by omega)).trans hX13
    have HB14 : Hid (Below W8.heap.size W8 W14) := HB13.out.trans (hb14.mono HB13.out.size)
    clear hb13 hX13 hb14
    go_wp2_with fail
    refine calls_at (same1_any w12.heap.size (w12.heap.size + 1) c _ _ _ _ _ _ _ _ W14 (HAT.out _ HB14.out).2.2.2.1 (HAT.out _ HB14.out).2.2.1 HX14.out HN14.out) (by with_reducible rfl) (by with_reducible rfl) ?_
    rintro e w15 ⟨rfl, hb15⟩
    have HB15 : Hid (Below W8.heap.size W8 w15) := HB14.out.trans (hb15.mono HB14.out.size)
    obtain ⟨S, F, hHold⟩ := (HAT.out _ HB15.out).2.2.2.2.2.2.1
    have H22 : Hid (Calls Tryz.prog 22 #[.pointer (some ⟨w3.heap.size, 0, none⟩)] w15 fun e w' => e = .returned (.bool true) ∧ Below w15.heap.size w15 w') := holdAll_any _ _ S F w15 hHold
    clear hb15 hHold hW13 hW14 hs13
    go_wp2_with fail
    refine calls_at H22.out (by with_reducible rfl) (by with_reducible rfl) ?_
    rintro e w16 ⟨rfl, hb16⟩
    have HB16 : Hid (Below W8.heap.size W8 w16) := HB15.out.trans (hb16.mono HB15.out.size)
    clear hb16
    go_wp2_with fail
    go_ret
    exact ⟨rfl, (HAT.out _ HB16.out).2.2.2.2.2.2.2⟩
end Go.Proofs.YtmhfabnpfkkbcaaGreat
