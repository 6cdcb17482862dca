/-
  TextPrints, as it runs.
-/
import Derived.Test.YtjanpglnahagdaaGreatDoorJ40
import Derived.Test.YtjanpglnahagdaaGreatDoorJ42
import Derived.Test.YtjanpglnahagdaaGreatDoorJ48
import Derived.Test.YtjanpglnahagdaaGreatDoorJ34
import Derived.Test.YtjanpglnahagdaaGreatDoorMdMade
import Derived.Test.YtjanpglnahagdaaGreatDoorMdD5
namespace Go.Proofs.YtjanpglnahagdaaGreatDoor
open Go Go.RowKit

theorem Way.here {w0 w : World} (h : Way w0 w) : Way w w := by
  obtain ⟨g, hg, hg5⟩ := gPow
  exact ⟨Below.refl _ _, var?_below h.low hg (by have := h.big; omega) h.tab, Nat.le_trans h.big h.low.size, h.opw1, h.opw2, h.opw3⟩
theorem docCon : DocCon := fun vars vv vc vg hb c vt vx vb vr w hV hn hC hF hN => docCon_any vars vv vc vg hb c vt vx vb vr w hV hn hC hF hN

set_option maxRecDepth 100000 in
set_option maxHeartbeats 4000000 in
theorem textPrints_walk (m : Md.Mo) (vv vc vg : Value) (w : World) (hM : MoAt w m vv vc vg) (hT : Way w w) : Calls Tryz.prog 3 #[moVal m vv vc vg] w fun e w' => e = .returned (.bool true) ∧ Below w.heap.size w w' := by
  obtain ⟨va, vp, rfl, _⟩ := hM.v.form
  obtain ⟨ca, cp, rfl, _⟩ := hM.c.form
  obtain ⟨ga, gp, rfl, _⟩ := hM.g.form
  have HNM : Hid (∀ x ∈ m.vars, x.name.size ≤ maxLen) := by
    obtain ⟨_, _, _, _, h, _⟩ := hM.v
    exact h
  have HT : Hid (Way w w) := hT
  obtain ⟨W1, hW1⟩ : ∃ W, w.alloc (.cells #[.slice va m.vars.length vp, .slice ca m.cons.length cp, .bool m.has, .slice ga m.goal.length gp] 26) = W := ⟨_, rfl⟩
  have hb1 : Below w.heap.size w W1 := by rw [← hW1]; exact (Below.refl _ _).alloc (Nat.le_refl _) _
  have hN1 : W1.heap[w.heap.size]? = some (.cells #[.slice va m.vars.length vp, .slice ca m.cons.length cp, .bool m.has, .slice ga m.goal.length gp] 26) := by rw [← hW1]; exact heap_alloc_new w _
  obtain ⟨W2, hW2⟩ : ∃ W2, W1.alloc (.cells #[.int .i64 20000] 58) = W2 := ⟨_, rfl⟩
  have hb12 : Below W1.heap.size W1 W2 := by rw [← hW2]; exact (Below.refl _ _).alloc (Nat.le_refl _) _
  have hNl : w.heap.size < W1.heap.size := (Array.getElem?_eq_some_iff.1 hN1).1
  have hN2 := (hb12.block _ hNl).trans hN1
  have hcnt : CountAt W2 W1.heap.size 20000 := by rw [← hW2]; exact heap_alloc_new W1 _
  have hb2 : Below w.heap.size w W2 := hb1.trans (hb12.mono hb1.size)
  have H4 : Hid (Calls Tryz.prog 4 #[.int .i64 20000] W1 fun e w' => e = .returned (.pointer (some ⟨W1.heap.size, 0, none⟩)) ∧ w' = W2) := by
    have := manyCount_any 20000 W1
    rw [hW2] at this; exact this
  have H5 : Hid (Calls Tryz.prog 5 #[.pointer (some ⟨W1.heap.size, 0, none⟩), .agg #[.slice va m.vars.length vp, .slice ca m.cons.length cp, .bool m.has, .slice ga m.goal.length gp]] W2 fun e w' => e = .returned (.tuple #[]) ∧ Took W1.heap.size 20000 (costM m) W2 w') :=
    model_count W1.heap.size 20000 m _ _ _ W2 hcnt (by decide) (by decide) w hM hb2 hb1.size
  have HMM : Hid (MoAt w m (.slice va m.vars.length vp) (.slice ca m.cons.length cp) (.slice ga m.goal.length gp)) := hM
  have HB2 : Hid (Below w.heap.size w W2) := hb2
  have HP : Hid (w.heap.size ≤ W1.heap.size ∧ w.heap.size < W1.heap.size) := ⟨hb1.size, hNl⟩
  have HN2 : Hid (W2.heap[w.heap.size]? = some (.cells #[.slice va m.vars.length vp, .slice ca m.cons.length cp, .bool m.has, .slice ga m.goal.length gp] 26 (0, 0))) := hN2
  obtain ⟨⟨p0, p1, p2, p3⟩, _⟩ := box4 hN2
  unfold moVal
  clear hM hT hb1 hN1 hb12 hNl hcnt hb2 hN2 hW2
  go_enter Tryz.func3, Tryz.ntmps3
  go_upto_region 3 with (first
    | (go_at_call 4; refine calls_at H4.out (by with_reducible rfl) (by with_reducible rfl) ?_; rintro e w' ⟨rfl, hww⟩; rw [hww]; clear hww)
    | (go_at_call 5; refine calls_at H5.out (by with_reducible rfl) (by with_reducible rfl) ?_; rintro e w3 ⟨rfl, ⟨⟨l2, hC2, h21, h22, hT2⟩, hG2⟩⟩))
  have HC2 : Hid (CountAt w3 W1.heap.size l2) := hC2
  have HT2 : Hid (0 ≤ l2 → l2 + (costM m : Int) ≤ 20000) := hT2
  have HB3 : Hid (Below w.heap.size w w3) := below_grownBy HB2.out hG2 HP.out.1
  have HN3 : Hid (w3.heap[w.heap.size]? = some (.cells #[.slice va m.vars.length vp, .slice ca m.cons.length cp, .bool m.has, .slice ga m.goal.length gp] 26 (0, 0))) := (hG2.block w.heap.size (Array.getElem?_eq_some_iff.1 HN2.out).1 (by intro h; injection h with h; have := HP.out.2; omega)).trans HN2.out
  clear hC2 hT2 hG2 h21 h22 p0 p1 p2 p3 HN2 HB2 H4 H5 hW1
  by_cases hl2 : 0 ≤ l2
  case neg =>
    have hd : decide (0 ≤ l2) = false := decide_eq_false hl2
    have H6 : Hid (Calls Tryz.prog 6 #[.pointer (some ⟨W1.heap.size, 0, none⟩)] w3 fun e w' => e = .returned (.bool false) ∧ w' = w3) := by
      have := ok_any W1.heap.size l2 w3 HC2.out
      rw [hd] at this; exact this
    clear hd hl2
    go_wp2_with (go_at_call 6; refine calls_at H6.out (by with_reducible rfl) (by with_reducible rfl) ?_; rintro e w' ⟨rfl, hww⟩; rw [hww]; clear hww)
    go_ret
    exact ⟨rfl, HB3.out⟩
  case pos =>
    have hd : decide (0 ≤ l2) = true := decide_eq_true hl2
    have H6 : Hid (Calls Tryz.prog 6 #[.pointer (some ⟨W1.heap.size, 0, none⟩)] w3 fun e w' => e = .returned (.bool true) ∧ w' = w3) := by
      have := ok_any W1.heap.size l2 w3 HC2.out
      rw [hd] at this; exact this
    have HK : Hid (costM m ≤ 20000) := by have := HT2.out hl2; show _ ≤ _; omega
    clear hd hl2 HT2
    obtain ⟨W4, hW4⟩ : ∃ W, w3.alloc (.cells #[.slice none 0 0, .slice none 0 0, .slice none 0 0, .slice none 0 0, .slice none 0 0, .slice none 0 0, .slice none 0 0, .slice none 0 0, .slice none 0 0, .slice none 0 0, .slice none 0 0, .slice none 0 0, .slice none 0 0, .slice none 0 0, .slice none 0 0, .slice none 0 0, .slice none 0 0, .slice none 0 0, .slice none 0 0, .slice none 0 0, .slice none 0 0, .slice none 0 0, .slice none 0 0, .slice none 0 0, .slice none 0 0, .slice none 0 0, .slice none 0 0, .slice none 0 0] 48) = W := ⟨_, rfl⟩
    have hR4 : RoomAt ety w.heap.size w3.heap.size (lab0 w3.heap.size) (fun _ => []) W4 := by rw [← hW4]; exact room_new w.heap.size w3 HB3.out.size [.slice none 0 0, .slice none 0 0, .slice none 0 0, .slice none 0 0, .slice none 0 0, .slice none 0 0, .slice none 0 0, .slice none 0 0, .slice none 0 0, .slice none 0 0, .slice none 0 0, .slice none 0 0, .slice none 0 0, .slice none 0 0, .slice none 0 0, .slice none 0 0, .slice none 0 0, .slice none 0 0, .slice none 0 0, .slice none 0 0, .slice none 0 0, .slice none 0 0, .slice none 0 0, .slice none 0 0, .slice none 0 0, .slice none 0 0, .slice none 0 0, .slice none 0 0] rfl
    have hb4 : Below w3.heap.size w3 W4 := by rw [← hW4]; exact (Below.refl _ _).alloc (Nat.le_refl _) _
    have hl3 : w.heap.size < w3.heap.size := (Array.getElem?_eq_some_iff.1 HN3.out).1
    have hN4 := (hb4.block w.heap.size hl3).trans HN3.out
    have hbw4 : Below w.heap.size w W4 := HB3.out.trans (hb4.mono HB3.out.size)
    have HBW4 : Hid (Below w.heap.size w W4) := hbw4
    have H7 : Hid (Calls Tryz.prog 7 #[.pointer (some ⟨w3.heap.size, 0, none⟩), .agg #[.slice va m.vars.length vp, .slice ca m.cons.length cp, .bool m.has, .slice ga m.goal.length gp]] W4 (LaidM w.heap.size w3.heap.size (lab0 w3.heap.size) (fun _ => []) W4 m)) :=
      roomModel_any w.heap.size w3.heap.size (lab0 w3.heap.size) (fun _ => []) m _ _ _ W4 w hR4 HMM.out (fun wr S' hA => hbw4.trans (hA.below hbw4.size hR4.low)) HK.out (fun j => by simp)
    have HR4 : Hid (RoomAt ety w.heap.size w3.heap.size (lab0 w3.heap.size) (fun _ => []) W4) := hR4
    have HN4 : Hid (W4.heap[w.heap.size]? = some (.cells #[.slice va m.vars.length vp, .slice ca m.cons.length cp, .bool m.has, .slice ga m.goal.length gp] 26 (0, 0))) := hN4
    have Hl3 : Hid (w.heap.size < w3.heap.size) := hl3
    obtain ⟨⟨p0, p1, p2, p3⟩, _⟩ := box4 hN4
    clear hR4 hb4 hN4 hbw4 hl3
    go_upto_region 7 with (first
      | (go_at_call 6; refine calls_at H6.out (by with_reducible rfl) (by with_reducible rfl) ?_; rintro e w' ⟨rfl, hww⟩; rw [hww]; clear hww)
      | (go_at_call 7; refine calls_at H7.out (by with_reducible rfl) (by with_reducible rfl) ?_; rintro e w5 ⟨⟨bV, bK, bG, cV, cK, cG, S5, F5, D, rfl, hR5, hA5, dV, dK, dG, hf, fn⟩⟩; unfold moVal))
    have HL5 : Hid (LaidQ w.heap.size w3.heap.size m bV bK bG w5) := laidQ_of HK.out HNM.out hR5 dV dK dG hf.1 hf.2.1 hf.2.2.1 hf.2.2.2.1 hf.2.2.2.2.1 hf.2.2.2.2.2.1 hf.2.2.2.2.2.2.1 hf.2.2.2.2.2.2.2.1 hf.2.2.2.2.2.2.2.2.1 hf.2.2.2.2.2.2.2.2.2 fn
    have hl4 : w.heap.size < W4.heap.size := (Array.getElem?_eq_some_iff.1 HN4.out).1
    have hn0 : lab0 w3.heap.size w.heap.size = 0 := by have := Hl3.out; unfold lab0; rw [if_neg (by omega)]
    have hN5 := (hA5.block w.heap.size hl4 hn0).trans HN4.out
    have hbw5 : Below w.heap.size w w5 := HBW4.out.trans (hA5.below HBW4.out.size HR4.out.low)
    obtain ⟨W6, hW6⟩ : ∃ W, w5.alloc (.cells #[.slice (some ⟨bV, 0, none⟩) m.vars.length (m.vars.length + 40), .slice (some ⟨bK, 0, none⟩) m.cons.length (m.cons.length + 40), .bool m.has, .slice (some ⟨bG, 0, none⟩) m.goal.length (m.goal.length + 40)] 26) = W := ⟨_, rfl⟩
    have hb6 : Below w5.heap.size w5 W6 := by rw [← hW6]; exact (Below.refl _ _).alloc (Nat.le_refl _) _
    have hX6 : W6.heap[w5.heap.size]? = some (.cells #[.slice (some ⟨bV, 0, none⟩) m.vars.length (m.vars.length + 40), .slice (some ⟨bK, 0, none⟩) m.cons.length (m.cons.length + 40), .bool m.has, .slice (some ⟨bG, 0, none⟩) m.goal.length (m.goal.length + 40)] 26) := by rw [← hW6]; exact heap_alloc_new w5 _
    have hN6 := (hb6.block w.heap.size (Array.getElem?_eq_some_iff.1 hN5).1).trans hN5
    have HAT : Hid (∀ w', Below W6.heap.size W6 w' → w'.heap[w.heap.size]? = some (.cells #[.slice va m.vars.length vp, .slice ca m.cons.length cp, .bool m.has, .slice ga m.goal.length gp] 26) ∧ w'.heap[w5.heap.size]? = some (.cells #[.slice (some ⟨bV, 0, none⟩) m.vars.length (m.vars.length + 40), .slice (some ⟨bK, 0, none⟩) m.cons.length (m.cons.length + 40), .bool m.has, .slice (some ⟨bG, 0, none⟩) m.goal.length (m.goal.length + 40)] 26) ∧ MoAt w' m (.slice va m.vars.length vp) (.slice ca m.cons.length cp) (.slice ga m.goal.length gp) ∧ LaidQ w.heap.size w3.heap.size m bV bK bG w' ∧ Below w.heap.size w w' ∧ Way w' w') := fun w' hb => by
      have h5 : Below w5.heap.size w5 w' := hb6.trans (hb.mono hb6.size)
      have hbw : Below w.heap.size w w' := hbw5.trans (h5.mono hbw5.size)
      exact ⟨(hb.block _ (Array.getElem?_eq_some_iff.1 hN6).1).trans hN6, (hb.block _ (Array.getElem?_eq_some_iff.1 hX6).1).trans hX6, HMM.out.below hbw, HL5.out.below h5, hbw, Way.here (w0 := w) ⟨hbw, HT.out.tab, HT.out.big, HT.out.opw⟩⟩
    obtain ⟨q1, hq1⟩ : ∃ q : ByteArray, ⟨(Md.print m).1.toArray⟩ = q := ⟨_, rfl⟩
    obtain ⟨q2, hq2⟩ : ∃ q, (Md.print m).2 = q := ⟨_, rfl⟩
    have H8 : Hid (∀ w', Below W6.heap.size W6 w' → Calls Tryz.prog 8 #[.agg #[.slice va m.vars.length vp, .slice ca m.cons.length cp, .bool m.has, .slice ga m.goal.length gp]] w' fun e w'' => e = .returned (.tuple #[.string q1, .int .i64 q2]) ∧ Below w'.heap.size w' w'') := fun w' hb => by rw [← hq1, ← hq2]; exact docPrint_any docCon m _ _ _ w' (HAT.out w' hb).2.2.1
    have H9 : Hid (∀ w', Below W6.heap.size W6 w' → Calls Tryz.prog 9 #[.agg #[.slice (some ⟨bV, 0, none⟩) m.vars.length (m.vars.length + 40), .slice (some ⟨bK, 0, none⟩) m.cons.length (m.cons.length + 40), .bool m.has, .slice (some ⟨bG, 0, none⟩) m.goal.length (m.goal.length + 40)]] w' fun e w'' => e = .returned (.tuple #[.string q1, .int .i64 q2]) ∧ Below w'.heap.size w' w'') := fun w' hb => by rw [← hq1, ← hq2]; exact print_any m _ _ _ w' (HAT.out w' hb).2.2.2.1.mo (HAT.out w' hb).2.2.2.2.2
    have H10 : Hid (∀ w', Below W6.heap.size W6 w' → Calls Tryz.prog 10 #[.agg #[.slice (some ⟨bV, 0, none⟩) m.vars.length (m.vars.length + 40), .slice (some ⟨bK, 0, none⟩) m.cons.length (m.cons.length + 40), .bool m.has, .slice (some ⟨bG, 0, none⟩) m.goal.length (m.goal.length + 40)], .agg #[.slice va m.vars.length vp, .slice ca m.cons.length cp, .bool m.has, .slice ga m.goal.length gp]] w' fun e w'' => e = .returned (.bool true) ∧ Below w'.heap.size w' w'') := fun w' hb => refSame_any m _ _ _ _ _ _ w' (HAT.out w' hb).2.2.2.1.mo (HAT.out w' hb).2.2.1
    have H11 : Hid (∀ w', Below W6.heap.size W6 w' → Calls Tryz.prog 11 #[.pointer (some ⟨w3.heap.size, 0, none⟩)] w' fun e w'' => e = .returned (.bool true) ∧ Below w'.heap.size w' w'') := fun w' hb => by
      obtain ⟨S, F, hH⟩ := (HAT.out w' hb).2.2.2.1.hold
      exact holdM_any _ _ S F w' hH
    clear hR5 hA5 dV dK dG hf fn hl4 hn0 hN5 hbw5 hb6 hX6 hN6 hq1 hq2 HR4 HBW4 HN4 HL5 HN3 HB3 p0 p1 p2 p3
    try rw [hW6]
    clear hW6
    obtain ⟨⟨p0, p1, p2, p3⟩, _⟩ := box4 (HAT.out W6 (Below.refl _ _)).1
    go_wp2_with (go_at_call 8; refine calls_at (H8.out W6 (Below.refl _ _)) (by with_reducible rfl) (by with_reducible rfl) ?_; rintro e w7 ⟨rfl, hb7⟩)
    have HB7 : Hid (Below W6.heap.size W6 w7) := hb7
    clear p0 p1 p2 p3 hb7
    go_loopw [8] (fun iv wr => ∃ k : Nat, iv = .int .i64 (k : Int) ∧ k ≤ 2 ∧ Hid (Below W6.heap.size W6 wr)) (fun iv _ => 2 - (intOf iv).toNat)
    case atStart => exact ⟨0, rfl, by decide, HB7⟩
    case round =>
      obtain ⟨k, rfl, hk, hB⟩ := hrel
      obtain ⟨⟨x0, x1, x2, x3⟩, _⟩ := box4 (HAT.out wr hB.out).2.1
      by_cases hlt : k < 2
      · have hkI : (k : Int) < 2 := by omega
        go_wp2_with (go_at_call 9; refine calls_at (H9.out wr hB.out) (by with_reducible rfl) (by with_reducible rfl) ?_; rintro e w9 ⟨rfl, hb9⟩; have HB9 : Hid (Below W6.heap.size W6 w9) := hB.out.trans (hb9.mono hB.out.size); clear hb9)
        go_roundw
        case rel => exact ⟨k + 1, by go_num, by omega, HB9⟩
        case measure => simp [intOf]; omega
      · have hkI : ¬ (k : Int) < 2 := by omega
        rename World => wk
        obtain ⟨⟨p0, p1, p2, p3⟩, _⟩ := box4 (HAT.out _ hB.out).1
        go_wp2_with (first
          | (go_at_call 10; refine calls_at (H10.out _ hB.out) (by with_reducible rfl) (by with_reducible rfl) ?_; rintro e w10 ⟨rfl, hb10⟩; have HB10 : Hid (Below W6.heap.size W6 w10) := hB.out.trans (hb10.mono hB.out.size); clear hb10)
          | (go_at_call 11; refine calls_at (H11.out _ HB10.out) (by with_reducible rfl) (by with_reducible rfl) ?_; rintro e w11 ⟨rfl, hb11⟩; have HB11 : Hid (Below W6.heap.size W6 w11) := HB10.out.trans (hb11.mono HB10.out.size); clear hb11))
        go_ret
        exact ⟨rfl, (HAT.out _ HB11.out).2.2.2.2.1⟩
end Go.Proofs.YtjanpglnahagdaaGreatDoor
