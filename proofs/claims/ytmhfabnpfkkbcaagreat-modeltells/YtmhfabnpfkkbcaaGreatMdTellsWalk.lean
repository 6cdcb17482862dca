/-
  ModelTells, as it runs.
-/
import Derived.Test.YtmhfabnpfkkbcaaGreatMdRoomMN
namespace Go.Proofs.YtmhfabnpfkkbcaaGreat
open Go.RowKit

theorem Tl.next {W w1 w2 : World} {N X : Nat} {a0 a1 a2 a3 x0 x1 x2 x3 : Value} (h : w1.cell? ⟨N, 0, none⟩ = some a0 ∧ w1.cell? ⟨N, 1, none⟩ = some a1 ∧ w1.cell? ⟨N, 2, none⟩ = some a2 ∧ w1.cell? ⟨N, 3, none⟩ = some a3 ∧ w1.cell? ⟨X, 0, none⟩ = some x0 ∧ w1.cell? ⟨X, 1, none⟩ = some x1 ∧ w1.cell? ⟨X, 2, none⟩ = some x2 ∧ w1.cell? ⟨X, 3, none⟩ = some x3 ∧ Below W.heap.size W w1) (hb : Below w1.heap.size w1 w2) : w2.cell? ⟨N, 0, none⟩ = some a0 ∧ w2.cell? ⟨N, 1, none⟩ = some a1 ∧ w2.cell? ⟨N, 2, none⟩ = some a2 ∧ w2.cell? ⟨N, 3, none⟩ = some a3 ∧ w2.cell? ⟨X, 0, none⟩ = some x0 ∧ w2.cell? ⟨X, 1, none⟩ = some x1 ∧ w2.cell? ⟨X, 2, none⟩ = some x2 ∧ w2.cell? ⟨X, 3, none⟩ = some x3 ∧ Below W.heap.size W w2 := by
  obtain ⟨h0, h1, h2, h3, k0, k1, k2, k3, h4⟩ := h
  exact ⟨one_next hb h0, one_next hb h1, one_next hb h2, one_next hb h3, one_next hb k0, one_next hb k1, one_next hb k2, one_next hb k3, h4.trans (hb.mono h4.size)⟩
theorem Tl.rest {W w1 : World} {N X : Nat} {a0 a1 a2 a3 x0 x1 x2 x3 : Value} (h : w1.cell? ⟨N, 0, none⟩ = some a0 ∧ w1.cell? ⟨N, 1, none⟩ = some a1 ∧ w1.cell? ⟨N, 2, none⟩ = some a2 ∧ w1.cell? ⟨N, 3, none⟩ = some a3 ∧ w1.cell? ⟨X, 0, none⟩ = some x0 ∧ w1.cell? ⟨X, 1, none⟩ = some x1 ∧ w1.cell? ⟨X, 2, none⟩ = some x2 ∧ w1.cell? ⟨X, 3, none⟩ = some x3 ∧ Below W.heap.size W w1) : Below W.heap.size W w1 := h.2.2.2.2.2.2.2.2

set_option maxRecDepth 10000 in
set_option maxHeartbeats 4000000 in
theorem modelTells_walk (m : Md.Mo) (vv vc vg vx : Value) (vs : List Int) (most : Int) (w : World) (hM : MoAt w m vv vc vg) (hV : IntsAt w vx vs) (hmo0 : -9223372036854775808 ≤ most) (hmo : most ≤ 9223372036854775807) : Calls Tryz.prog 3 #[moVal m vv vc vg, vx, .int .i64 most] w fun e w' => e = .returned (.bool true) ∧ Below w.heap.size w w' := by
  obtain ⟨va, vp, rfl, _⟩ := hM.v.form
  obtain ⟨ca, cp, rfl, _⟩ := hM.c.form
  obtain ⟨ga, gp, rfl, _⟩ := hM.g.form
  obtain ⟨xa, xc, rfl, hxm⟩ := hV.form
  have HNM : Hid (∀ x ∈ m.vars, x.name.size ≤ maxLen) := by
    obtain ⟨_, _, _, _, h, _⟩ := hM.v
    exact h
  have HMO : Hid (-9223372036854775808 ≤ most ∧ most ≤ 9223372036854775807) := ⟨hmo0, hmo⟩
  obtain ⟨W1, hW1⟩ : ∃ W, w.alloc (.cells #[.slice va m.vars.length vp, .slice ca m.cons.length cp, .bool m.has, .slice ga m.goal.length gp] 26) = W := ⟨_, rfl⟩
  have hb1 : Below w.heap.size w W1 := by rw [← hW1]; exact (Below.refl _ _).alloc (Nat.le_refl _) _
  have hN1 : W1.heap[w.heap.size]? = some (.cells #[.slice va m.vars.length vp, .slice ca m.cons.length cp, .bool m.has, .slice ga m.goal.length gp] 26) := by rw [← hW1]; exact heap_alloc_new w _
  have HFew : Hid (Calls Tryz.prog 5 #[.agg #[.slice va m.vars.length vp, .slice ca m.cons.length cp, .bool m.has, .slice ga m.goal.length gp], .slice xa vs.length xc] W1 (Few (costM m + vs.length) W1)) := few_any m _ _ _ xa vs.length xc W1 hxm (hM.below hb1)
  have HBW : Hid (Below w.heap.size w W1) := hb1
  have HMM : Hid (MoAt w m (.slice va m.vars.length vp) (.slice ca m.cons.length cp) (.slice ga m.goal.length gp)) := hM
  have HVV : Hid (IntsAt w (.slice xa vs.length xc) vs) := hV
  have HN1 : Hid (W1.heap[w.heap.size]? = some (.cells #[.slice va m.vars.length vp, .slice ca m.cons.length cp, .bool m.has, .slice ga m.goal.length gp] 26)) := hN1
  obtain ⟨⟨p0, p1, p2, p3⟩, _⟩ := box4 hN1
  unfold moVal
  clear hM hV hb1 hN1 hmo0 hmo
  go_enter Tryz.func3, Tryz.ntmps3
  go_wp2_with fail
  refine calls_at HFew.out (by with_reducible rfl) (by with_reducible rfl) ?_
  rintro e w3 ⟨⟨b, rfl, hcost⟩, hb3⟩
  have HB3 : Hid (Below w.heap.size w w3) := HBW.out.trans (hb3.mono HBW.out.size)
  cases b
  · go_wp2_with fail
    go_ret
    exact ⟨rfl, HB3.out⟩
  have HK : Hid (costM m + vs.length ≤ 20000) := hcost rfl
  have hl1 : w.heap.size < W1.heap.size := (Array.getElem?_eq_some_iff.1 HN1.out).1
  have hN3 := (hb3.block w.heap.size hl1).trans HN1.out
  clear hcost
  obtain ⟨W4, hW4⟩ : ∃ W, w3.alloc (.cells #[.slice none 0 0, .slice none 0 0, .slice none 0 0, .slice none 0 0, .slice none 0 0, .slice none 0 0, .slice none 0 0, .slice none 0 0, .slice none 0 0, .slice none 0 0, .slice none 0 0, .slice none 0 0, .slice none 0 0, .slice none 0 0, .slice none 0 0, .slice none 0 0, .slice none 0 0, .slice none 0 0, .slice none 0 0, .slice none 0 0, .slice none 0 0, .slice none 0 0, .slice none 0 0, .slice none 0 0, .slice none 0 0, .slice none 0 0, .slice none 0 0, .slice none 0 0] 45) = W := ⟨_, rfl⟩
  have hR4 : RoomAt ety w.heap.size w3.heap.size (lab0 w3.heap.size) (fun _ => []) W4 := by rw [← hW4]; exact room_new w.heap.size w3 HB3.out.size [.slice none 0 0, .slice none 0 0, .slice none 0 0, .slice none 0 0, .slice none 0 0, .slice none 0 0, .slice none 0 0, .slice none 0 0, .slice none 0 0, .slice none 0 0, .slice none 0 0, .slice none 0 0, .slice none 0 0, .slice none 0 0, .slice none 0 0, .slice none 0 0, .slice none 0 0, .slice none 0 0, .slice none 0 0, .slice none 0 0, .slice none 0 0, .slice none 0 0, .slice none 0 0, .slice none 0 0, .slice none 0 0, .slice none 0 0, .slice none 0 0, .slice none 0 0] rfl
  have hb4 : Below w3.heap.size w3 W4 := by rw [← hW4]; exact (Below.refl _ _).alloc (Nat.le_refl _) _
  have hl3 : w.heap.size < w3.heap.size := (Array.getElem?_eq_some_iff.1 hN3).1
  have hN4 := (hb4.block w.heap.size hl3).trans hN3
  have hbw4 : Below w.heap.size w W4 := HB3.out.trans (hb4.mono HB3.out.size)
  have HBW4 : Hid (Below w.heap.size w W4) := hbw4
  have H6 : Hid (Calls Tryz.prog 6 #[.pointer (some ⟨w3.heap.size, 0, none⟩), .agg #[.slice va m.vars.length vp, .slice ca m.cons.length cp, .bool m.has, .slice ga m.goal.length gp]] W4 (LaidM w.heap.size w3.heap.size (lab0 w3.heap.size) (fun _ => []) W4 m)) :=
    roomModel_any w.heap.size w3.heap.size (lab0 w3.heap.size) (fun _ => []) m _ _ _ W4 w hR4 HMM.out (fun wr S' hA => hbw4.trans (hA.below hbw4.size hR4.low)) (by have := HK.out; omega) (fun j => by simp)
  have HR4 : Hid (RoomAt ety w.heap.size w3.heap.size (lab0 w3.heap.size) (fun _ => []) W4) := hR4
  have HN4 : Hid (W4.heap[w.heap.size]? = some (.cells #[.slice va m.vars.length vp, .slice ca m.cons.length cp, .bool m.has, .slice ga m.goal.length gp] 26)) := hN4
  clear p0 p1 p2 p3
  obtain ⟨⟨p0, p1, p2, p3⟩, _⟩ := box4 hN4
  clear hb3 hN3 hR4 hb4 hN4 hbw4 hW1 HFew HN1 hl1
  go_wp2_with fail
  refine calls_at H6.out (by with_reducible rfl) (by with_reducible rfl) ?_
  rintro e w5 ⟨⟨bV, bK, bG, cV, cK, cG, S5, F5, D, rfl, hR5, hA5, dV, dK, dG, hf, fn⟩⟩
  unfold moVal
  have hDn : D.length ≤ 20000 ∧ (D.flatMap Con1.entI).length ≤ 40000 ∧ (D.flatMap Con1.atI).length ≤ 40000 := by
    have h1 := ents_le D (fun d hd => by have := congrArg List.length (dK.ok d hd).l.rows; simpa using this)
    rw [dK.rows] at h1
    have := HK.out
    unfold costM at this
    exact ⟨by omega, by omega, by omega⟩
  have H7 : Hid (Calls Tryz.prog 7 #[.pointer (some ⟨w3.heap.size, 0, none⟩), .slice xa vs.length xc] w5 (LaidI w.heap.size w3.heap.size S5 F5 w5 vs 40)) := roomInts_any w.heap.size w3.heap.size S5 F5 _ vs w5 hR5 (HVV.out.below (HBW4.out.trans (hA5.below HBW4.out.size HR4.out.low))) (by have := HK.out; omega) (by rw [hf.1]; simp only [List.nil_append]; omega) (by rw [hf.2.1]; simp only [List.nil_append]; omega)
  have HD : Hid (DataV S5 w5 bV m.vars 40 ∧ DataK S5 w5 bK m.cons D 40 ∧ DataT S5 w5 bG m.goal 40) := ⟨dV, dK, dG⟩
  have HF : Hid ((F5 0 = D.flatMap Con1.entI ∧ F5 1 = D.flatMap Con1.atI ∧ F5 4 = D.map Con1.entT ++ [.slice (some ⟨bG, 0, none⟩) (m.goal.length + 40) cG] ∧ F5 5 = D.map Con1.atT ++ [.int .i64 (m.goal.length : Int)] ∧ F5 6 = [.slice (some ⟨bV, 0, none⟩) (m.vars.length + 40) cV] ∧ F5 7 = [.int .i64 (m.vars.length : Int)] ∧ F5 16 = D.map Con1.entL ∧ F5 17 = D.map Con1.atL ∧ F5 18 = [.slice (some ⟨bK, 0, none⟩) (m.cons.length + 40) cK] ∧ F5 19 = [.int .i64 (m.cons.length : Int)]) ∧ ∀ j, j ≠ 0 → j ≠ 1 → j ≠ 4 → j ≠ 5 → j ≠ 6 → j ≠ 7 → j ≠ 16 → j ≠ 17 → j ≠ 18 → j ≠ 19 → F5 j = []) := ⟨hf, fn⟩
  have HA5 : Hid (Agree (lab0 w3.heap.size) S5 W4 w5) := hA5
  clear hR5 hA5 dV dK dG hf fn hDn
  go_wp2_with fail
  refine calls_at H7.out (by with_reducible rfl) (by with_reducible rfl) ?_
  rintro e w6 ⟨⟨bX, cX, S6, F6, rfl, hbV0, hbV, hlV, hR6, g0, g1, gn, hA6, hcV, _⟩⟩
  have HL2 : Hid (LaidP w.heap.size w3.heap.size m vs bV bK bG bX w6) := laidP_of HK.out HNM.out hR6 hA6 HD.out.1 HD.out.2.1 HD.out.2.2 HF.out.1.1 HF.out.1.2.1 HF.out.1.2.2.1 HF.out.1.2.2.2.1 HF.out.1.2.2.2.2.1 HF.out.1.2.2.2.2.2.1 HF.out.1.2.2.2.2.2.2.1 HF.out.1.2.2.2.2.2.2.2.1 HF.out.1.2.2.2.2.2.2.2.2.1 HF.out.1.2.2.2.2.2.2.2.2.2 HF.out.2 g0 g1 gn hbV hlV hcV
  have hl4 : w.heap.size < W4.heap.size := (Array.getElem?_eq_some_iff.1 HN4.out).1
  have hn0 : lab0 w3.heap.size w.heap.size = 0 := by unfold lab0; rw [if_neg (by omega)]
  have hN5 := (HA5.out.block w.heap.size hl4 hn0).trans HN4.out
  have hN6 := (hA6.block w.heap.size (Nat.lt_of_lt_of_le hl4 HA5.out.size) ((HA5.out.lab _ hl4).trans hn0)).trans hN5
  have hbw6 : Below w.heap.size w w6 := by
    have h5 : Below w.heap.size w w5 := HBW4.out.trans (HA5.out.below HBW4.out.size HR4.out.low)
    exact h5.trans (hA6.below h5.size (fun k hk => (HA5.out.lab k (Nat.lt_of_lt_of_le hk HBW4.out.size)).trans (HR4.out.low k hk)))
  obtain ⟨W8, hW8⟩ : ∃ W, w6.alloc (.cells #[.slice (some ⟨bV, 0, none⟩) m.vars.length (m.vars.length + 40), .slice (some ⟨bK, 0, none⟩) m.cons.length (m.cons.length + 40), .bool m.has, .slice (some ⟨bG, 0, none⟩) m.goal.length (m.goal.length + 40)] 26) = W := ⟨_, rfl⟩
  have hb8 : Below w6.heap.size w6 W8 := by rw [← hW8]; exact (Below.refl _ _).alloc (Nat.le_refl _) _
  have hX8 : W8.heap[w6.heap.size]? = some (.cells #[.slice (some ⟨bV, 0, none⟩) m.vars.length (m.vars.length + 40), .slice (some ⟨bK, 0, none⟩) m.cons.length (m.cons.length + 40), .bool m.has, .slice (some ⟨bG, 0, none⟩) m.goal.length (m.goal.length + 40)] 26) := by rw [← hW8]; exact heap_alloc_new w6 _
  have hN8 := (hb8.block w.heap.size (Array.getElem?_eq_some_iff.1 hN6).1).trans hN6
  have HAT : Hid (∀ w', Below W8.heap.size W8 w' → w'.heap[w.heap.size]? = some (.cells #[.slice va m.vars.length vp, .slice ca m.cons.length cp, .bool m.has, .slice ga m.goal.length gp] 26) ∧ w'.heap[w6.heap.size]? = some (.cells #[.slice (some ⟨bV, 0, none⟩) m.vars.length (m.vars.length + 40), .slice (some ⟨bK, 0, none⟩) m.cons.length (m.cons.length + 40), .bool m.has, .slice (some ⟨bG, 0, none⟩) m.goal.length (m.goal.length + 40)] 26) ∧ MoAt w' m (.slice va m.vars.length vp) (.slice ca m.cons.length cp) (.slice ga m.goal.length gp) ∧ MoAt w' m (.slice (some ⟨bV, 0, none⟩) m.vars.length (m.vars.length + 40)) (.slice (some ⟨bK, 0, none⟩) m.cons.length (m.cons.length + 40)) (.slice (some ⟨bG, 0, none⟩) m.goal.length (m.goal.length + 40)) ∧ IntsAt w' (.slice xa vs.length xc) vs ∧ IntsAt w' (.slice (some ⟨bX, 0, none⟩) vs.length (vs.length + 40)) vs ∧ (∃ S F, HoldOkM w.heap.size w3.heap.size S F w') ∧ Below w.heap.size w w') := fun w' hb => by
    have hb6 : Below w6.heap.size w6 w' := hb8.trans (hb.mono hb8.size)
    have hbw : Below w.heap.size w w' := hbw6.trans (hb6.mono hbw6.size)
    have L := HL2.out.below hb6
    exact ⟨(hb.block _ (Array.getElem?_eq_some_iff.1 hN8).1).trans hN8, (hb.block _ (Array.getElem?_eq_some_iff.1 hX8).1).trans hX8, HMM.out.below hbw, L.mo, HVV.out.below hbw, L.vals, L.hold, hbw⟩
  clear p0 p1 p2 p3
  obtain ⟨⟨p0, p1, p2, p3⟩, _⟩ := box4 hN8
  clear hR6 hA6 g0 g1 gn hcV hN5 hN6 hbw6 hb8 hX8 hN8 H7 H6 HD HF HA5 HL2 HR4 HBW4 HN4
  obtain ⟨r1, hr1⟩ : ∃ r, (Md.check m).1 = r := ⟨_, rfl⟩
  obtain ⟨r2, hr2⟩ : ∃ r, (Md.check m).2 = r := ⟨_, rfl⟩
  obtain ⟨u1, hu1⟩ : ∃ r, (Md.product m most).1 = r := ⟨_, rfl⟩
  obtain ⟨u2, hu2⟩ : ∃ r, (Md.product m most).2 = r := ⟨_, rfl⟩
  obtain ⟨fl, hfl⟩ : ∃ r, Md.floor m = r := ⟨_, rfl⟩
  obtain ⟨cl, hcl⟩ : ∃ r, Md.ceil m = r := ⟨_, rfl⟩
  obtain ⟨so, hso⟩ : ∃ r, Md.solution m vs = r := ⟨_, rfl⟩
  obtain ⟨wo, hwo⟩ : ∃ r, Md.worth m vs = r := ⟨_, rfl⟩
  have H8 : Hid (∀ w', Below W8.heap.size W8 w' → Calls Tryz.prog 8 #[.agg #[.slice va m.vars.length vp, .slice ca m.cons.length cp, .bool m.has, .slice ga m.goal.length gp]] w' fun e w'' => e = .returned (.tuple #[.int .i64 r1, .int .i64 r2]) ∧ Below w'.heap.size w' w'') := fun w' hb => by rw [← hr1, ← hr2]; exact refCheck_any m _ _ _ w' (HAT.out _ hb).2.2.1
  have H10 : Hid (∀ w', Below W8.heap.size W8 w' → Calls Tryz.prog 10 #[.agg #[.slice (some ⟨bV, 0, none⟩) m.vars.length (m.vars.length + 40), .slice (some ⟨bK, 0, none⟩) m.cons.length (m.cons.length + 40), .bool m.has, .slice (some ⟨bG, 0, none⟩) m.goal.length (m.goal.length + 40)]] w' fun e w'' => e = .returned (.tuple #[.int .i64 r1, .int .i64 r2]) ∧ Below w'.heap.size w' w'') := fun w' hb => by rw [← hr1, ← hr2]; exact check_any m _ _ _ w' (HAT.out _ hb).2.2.2.1
  have H9 : Hid (∀ w', Below W8.heap.size W8 w' → Calls Tryz.prog 9 #[.agg #[.slice va m.vars.length vp, .slice ca m.cons.length cp, .bool m.has, .slice ga m.goal.length gp], .int .i64 most] w' fun e w'' => e = .returned (.tuple #[.int .i64 u1, .bool u2]) ∧ Below w'.heap.size w' w'') := fun w' hb => by rw [← hu1, ← hu2]; exact refProduct_any m _ _ _ most w' (HAT.out _ hb).2.2.1 HMO.out.1 HMO.out.2
  have H11 : Hid (∀ w', Below W8.heap.size W8 w' → Calls Tryz.prog 11 #[.agg #[.slice (some ⟨bV, 0, none⟩) m.vars.length (m.vars.length + 40), .slice (some ⟨bK, 0, none⟩) m.cons.length (m.cons.length + 40), .bool m.has, .slice (some ⟨bG, 0, none⟩) m.goal.length (m.goal.length + 40)], .int .i64 most] w' fun e w'' => e = .returned (.tuple #[.int .i64 u1, .bool u2]) ∧ Below w'.heap.size w' w'') := fun w' hb => by rw [← hu1, ← hu2]; exact product_any m _ _ _ most w' (HAT.out _ hb).2.2.2.1 HMO.out.1 HMO.out.2
  have H12 : Hid (∀ w', Below W8.heap.size W8 w' → Calls Tryz.prog 12 #[.agg #[.slice (some ⟨bV, 0, none⟩) m.vars.length (m.vars.length + 40), .slice (some ⟨bK, 0, none⟩) m.cons.length (m.cons.length + 40), .bool m.has, .slice (some ⟨bG, 0, none⟩) m.goal.length (m.goal.length + 40)]] w' fun e w'' => e = .returned (.int .i64 fl) ∧ Below w'.heap.size w' w'') := fun w' hb => by rw [← hfl]; exact floor_any m _ _ _ w' (HAT.out _ hb).2.2.2.1
  have H13 : Hid (∀ w', Below W8.heap.size W8 w' → Calls Tryz.prog 13 #[.agg #[.slice va m.vars.length vp, .slice ca m.cons.length cp, .bool m.has, .slice ga m.goal.length gp]] w' fun e w'' => e = .returned (.int .i64 fl) ∧ Below w'.heap.size w' w'') := fun w' hb => by rw [← hfl]; exact ref_floor m _ _ _ w' (HAT.out _ hb).2.2.1
  have H14 : Hid (∀ w', Below W8.heap.size W8 w' → Calls Tryz.prog 14 #[.agg #[.slice (some ⟨bV, 0, none⟩) m.vars.length (m.vars.length + 40), .slice (some ⟨bK, 0, none⟩) m.cons.length (m.cons.length + 40), .bool m.has, .slice (some ⟨bG, 0, none⟩) m.goal.length (m.goal.length + 40)]] w' fun e w'' => e = .returned (.int .i64 cl) ∧ Below w'.heap.size w' w'') := fun w' hb => by rw [← hcl]; exact ceil_any m _ _ _ w' (HAT.out _ hb).2.2.2.1
  have H15 : Hid (∀ w', Below W8.heap.size W8 w' → Calls Tryz.prog 15 #[.agg #[.slice va m.vars.length vp, .slice ca m.cons.length cp, .bool m.has, .slice ga m.goal.length gp]] w' fun e w'' => e = .returned (.int .i64 cl) ∧ Below w'.heap.size w' w'') := fun w' hb => by rw [← hcl]; exact ref_ceil m _ _ _ w' (HAT.out _ hb).2.2.1
  have H16 : Hid (∀ w', Below W8.heap.size W8 w' → Calls Tryz.prog 16 #[.agg #[.slice (some ⟨bV, 0, none⟩) m.vars.length (m.vars.length + 40), .slice (some ⟨bK, 0, none⟩) m.cons.length (m.cons.length + 40), .bool m.has, .slice (some ⟨bG, 0, none⟩) m.goal.length (m.goal.length + 40)], .slice (some ⟨bX, 0, none⟩) vs.length (vs.length + 40)] w' fun e w'' => e = .returned (.bool so) ∧ Below w'.heap.size w' w'') := fun w' hb => by rw [← hso]; exact solution_any m _ _ _ _ vs w' (HAT.out _ hb).2.2.2.1 (HAT.out _ hb).2.2.2.2.2.1
  have H17 : Hid (∀ w', Below W8.heap.size W8 w' → Calls Tryz.prog 17 #[.agg #[.slice va m.vars.length vp, .slice ca m.cons.length cp, .bool m.has, .slice ga m.goal.length gp], .slice xa vs.length xc] w' fun e w'' => e = .returned (.bool so) ∧ Below w'.heap.size w' w'') := fun w' hb => by rw [← hso]; exact refSolution_any m _ _ _ _ vs w' (HAT.out _ hb).2.2.1 (HAT.out _ hb).2.2.2.2.1
  have H18 : Hid (∀ w', Below W8.heap.size W8 w' → Calls Tryz.prog 18 #[.agg #[.slice (some ⟨bV, 0, none⟩) m.vars.length (m.vars.length + 40), .slice (some ⟨bK, 0, none⟩) m.cons.length (m.cons.length + 40), .bool m.has, .slice (some ⟨bG, 0, none⟩) m.goal.length (m.goal.length + 40)], .slice (some ⟨bX, 0, none⟩) vs.length (vs.length + 40)] w' fun e w'' => e = .returned (.int .i64 wo) ∧ Below w'.heap.size w' w'') := fun w' hb => by rw [← hwo]; exact worth_any m _ _ _ _ vs w' (HAT.out _ hb).2.2.2.1 (HAT.out _ hb).2.2.2.2.2.1
  have H19 : Hid (∀ w', Below W8.heap.size W8 w' → Calls Tryz.prog 19 #[.agg #[.slice va m.vars.length vp, .slice ca m.cons.length cp, .bool m.has, .slice ga m.goal.length gp], .slice xa vs.length xc] w' fun e w'' => e = .returned (.int .i64 wo) ∧ Below w'.heap.size w' w'') := fun w' hb => by rw [← hwo]; exact refWorth_any m _ _ _ _ vs w' (HAT.out _ hb).2.2.1 (HAT.out _ hb).2.2.2.2.1
  have H20 : Hid (∀ w', Below W8.heap.size W8 w' → Calls Tryz.prog 20 #[.agg #[.slice (some ⟨bV, 0, none⟩) m.vars.length (m.vars.length + 40), .slice (some ⟨bK, 0, none⟩) m.cons.length (m.cons.length + 40), .bool m.has, .slice (some ⟨bG, 0, none⟩) m.goal.length (m.goal.length + 40)], .agg #[.slice va m.vars.length vp, .slice ca m.cons.length cp, .bool m.has, .slice ga m.goal.length gp]] w' fun e w'' => e = .returned (.bool true) ∧ Below w'.heap.size w' w'') := fun w' hb => refSame_any m _ _ _ _ _ _ w' (HAT.out _ hb).2.2.2.1 (HAT.out _ hb).2.2.1
  have H21 : Hid (∀ w', Below W8.heap.size W8 w' → Calls Tryz.prog 21 #[.slice (some ⟨bX, 0, none⟩) vs.length (vs.length + 40), .slice xa vs.length xc] w' fun e w'' => e = .returned (.bool true) ∧ Below w'.heap.size w' w'') := fun w' hb => sameInts_law _ _ vs w' (HAT.out _ hb).2.2.2.2.2.1 (HAT.out _ hb).2.2.2.2.1
  have H22 : Hid (∀ w', Below W8.heap.size W8 w' → Calls Tryz.prog 22 #[.pointer (some ⟨w3.heap.size, 0, none⟩)] w' fun e w'' => e = .returned (.bool true) ∧ Below w'.heap.size w' w'') := fun w' hb => by
    obtain ⟨S, F, hH⟩ := (HAT.out _ hb).2.2.2.2.2.2.1
    exact holdM_any _ _ S F w' hH
  clear hr1 hr2 hu1 hu2 hfl hcl hso hwo
  go_wp2_with (first
    | (go_at_call 8; refine calls_at (H8.out W8 (Below.refl _ _)) (by with_reducible rfl) (by with_reducible rfl) ?_; rintro e w9 ⟨rfl, hb9⟩; have HB9 : Hid (Below W8.heap.size W8 w9) := hb9; clear hb9 p0 p1 p2 p3; obtain ⟨⟨p0, p1, p2, p3⟩, _⟩ := box4 (HAT.out _ HB9.out).1)
    | (go_at_call 9; refine calls_at (H9.out w9 HB9.out) (by with_reducible rfl) (by with_reducible rfl) ?_; rintro e w10 ⟨rfl, hb10⟩; have HB10 : Hid (Below W8.heap.size W8 w10) := HB9.out.trans (hb10.mono HB9.out.size); clear hb10 p0 p1 p2 p3))
  go_loopw [14] (fun iv wr => ∃ k : Nat, iv = .int .i64 (k : Int) ∧ k ≤ 2 ∧ Hid (Below W8.heap.size W8 wr)) (fun iv _ => 2 - (intOf iv).toNat)
  case atStart => exact ⟨0, rfl, by decide, HB10⟩
  case round =>
    obtain ⟨k, rfl, hk, hT⟩ := hrel
    by_cases hlt : k < 2
    · have hkI : (k : Int) < 2 := by omega
      obtain ⟨⟨q0, q1, q2, q3⟩, _⟩ := box4 (HAT.out _ hT.out).2.1
      go_wp2_with (first
        | (go_at_call 10; refine calls_at (H10.out _ hT.out) (by with_reducible rfl) (by with_reducible rfl) ?_; rintro e w11 ⟨rfl, hb11⟩; have HB11 : Hid (Below W8.heap.size W8 w11) := hT.out.trans (hb11.mono hT.out.size); clear hb11 q0 q1 q2 q3; obtain ⟨⟨q0, q1, q2, q3⟩, _⟩ := box4 (HAT.out _ HB11.out).2.1)
        | (go_at_call 11; refine calls_at (H11.out w11 HB11.out) (by with_reducible rfl) (by with_reducible rfl) ?_; rintro e w12 ⟨rfl, hb12⟩; have HB12 : Hid (Below W8.heap.size W8 w12) := HB11.out.trans (hb12.mono HB11.out.size); clear hb12 q0 q1 q2 q3))
      obtain ⟨⟨p0, p1, p2, p3⟩, _⟩ := box4 (HAT.out _ HB12.out).1
      obtain ⟨⟨q0, q1, q2, q3⟩, _⟩ := box4 (HAT.out _ HB12.out).2.1
      have hS0 : Hid (w12.cell? ⟨w.heap.size, 0, none⟩ = some (.slice va m.vars.length vp) ∧ w12.cell? ⟨w.heap.size, 1, none⟩ = some (.slice ca m.cons.length cp) ∧ w12.cell? ⟨w.heap.size, 2, none⟩ = some (.bool m.has) ∧ w12.cell? ⟨w.heap.size, 3, none⟩ = some (.slice ga m.goal.length gp) ∧ w12.cell? ⟨w6.heap.size, 0, none⟩ = some (.slice (some ⟨bV, 0, none⟩) m.vars.length (m.vars.length + 40)) ∧ w12.cell? ⟨w6.heap.size, 1, none⟩ = some (.slice (some ⟨bK, 0, none⟩) m.cons.length (m.cons.length + 40)) ∧ w12.cell? ⟨w6.heap.size, 2, none⟩ = some (.bool m.has) ∧ w12.cell? ⟨w6.heap.size, 3, none⟩ = some (.slice (some ⟨bG, 0, none⟩) m.goal.length (m.goal.length + 40)) ∧ Below W8.heap.size W8 w12) := ⟨p0, p1, p2, p3, q0, q1, q2, q3, HB12.out⟩
      clear p0 p1 p2 p3 q0 q1 q2 q3
      go_region_held3 (fun w' => w'.cell? ⟨w.heap.size, 0, none⟩ = some (.slice va m.vars.length vp) ∧ w'.cell? ⟨w.heap.size, 1, none⟩ = some (.slice ca m.cons.length cp) ∧ w'.cell? ⟨w.heap.size, 2, none⟩ = some (.bool m.has) ∧ w'.cell? ⟨w.heap.size, 3, none⟩ = some (.slice ga m.goal.length gp) ∧ w'.cell? ⟨w6.heap.size, 0, none⟩ = some (.slice (some ⟨bV, 0, none⟩) m.vars.length (m.vars.length + 40)) ∧ w'.cell? ⟨w6.heap.size, 1, none⟩ = some (.slice (some ⟨bK, 0, none⟩) m.cons.length (m.cons.length + 40)) ∧ w'.cell? ⟨w6.heap.size, 2, none⟩ = some (.bool m.has) ∧ w'.cell? ⟨w6.heap.size, 3, none⟩ = some (.slice (some ⟨bG, 0, none⟩) m.goal.length (m.goal.length + 40)) ∧ Below W8.heap.size W8 w')
        (first | exact Tl.next hS0.out (Below.refl _ _).drew | exact Tl.next (by assumption) (by assumption) | assumption)
        (first | (go_at_call 12; refine calls_at (H12.out _ (Tl.rest (by assumption))) (by with_reducible rfl) (by with_reducible rfl) ?_; rintro e w' ⟨rfl, hb⟩) | (go_at_call 13; refine calls_at (H13.out _ (Tl.rest (by assumption))) (by with_reducible rfl) (by with_reducible rfl) ?_; rintro e w' ⟨rfl, hb⟩) | (go_at_call 14; refine calls_at (H14.out _ (Tl.rest (by assumption))) (by with_reducible rfl) (by with_reducible rfl) ?_; rintro e w' ⟨rfl, hb⟩) | (go_at_call 15; refine calls_at (H15.out _ (Tl.rest (by assumption))) (by with_reducible rfl) (by with_reducible rfl) ?_; rintro e w' ⟨rfl, hb⟩))
      rename_i hHeld
      have hS1 := hHeld
      have HS1 : Hid (w'.cell? ⟨w.heap.size, 0, none⟩ = some (.slice va m.vars.length vp) ∧ w'.cell? ⟨w.heap.size, 1, none⟩ = some (.slice ca m.cons.length cp) ∧ w'.cell? ⟨w.heap.size, 2, none⟩ = some (.bool m.has) ∧ w'.cell? ⟨w.heap.size, 3, none⟩ = some (.slice ga m.goal.length gp) ∧ w'.cell? ⟨w6.heap.size, 0, none⟩ = some (.slice (some ⟨bV, 0, none⟩) m.vars.length (m.vars.length + 40)) ∧ w'.cell? ⟨w6.heap.size, 1, none⟩ = some (.slice (some ⟨bK, 0, none⟩) m.cons.length (m.cons.length + 40)) ∧ w'.cell? ⟨w6.heap.size, 2, none⟩ = some (.bool m.has) ∧ w'.cell? ⟨w6.heap.size, 3, none⟩ = some (.slice (some ⟨bG, 0, none⟩) m.goal.length (m.goal.length + 40)) ∧ Below W8.heap.size W8 w') := hS1
      clear hHeld hS1 hS0
      go_wp2_with fail
      go_region_held3 (fun w' => w'.cell? ⟨w.heap.size, 0, none⟩ = some (.slice va m.vars.length vp) ∧ w'.cell? ⟨w.heap.size, 1, none⟩ = some (.slice ca m.cons.length cp) ∧ w'.cell? ⟨w.heap.size, 2, none⟩ = some (.bool m.has) ∧ w'.cell? ⟨w.heap.size, 3, none⟩ = some (.slice ga m.goal.length gp) ∧ w'.cell? ⟨w6.heap.size, 0, none⟩ = some (.slice (some ⟨bV, 0, none⟩) m.vars.length (m.vars.length + 40)) ∧ w'.cell? ⟨w6.heap.size, 1, none⟩ = some (.slice (some ⟨bK, 0, none⟩) m.cons.length (m.cons.length + 40)) ∧ w'.cell? ⟨w6.heap.size, 2, none⟩ = some (.bool m.has) ∧ w'.cell? ⟨w6.heap.size, 3, none⟩ = some (.slice (some ⟨bG, 0, none⟩) m.goal.length (m.goal.length + 40)) ∧ Below W8.heap.size W8 w')
        (first | exact Tl.next HS1.out (Below.refl _ _).drew | exact Tl.next (by assumption) (by assumption) | assumption)
        (first | (go_at_call 16; refine calls_at (H16.out _ (Tl.rest (by assumption))) (by with_reducible rfl) (by with_reducible rfl) ?_; rintro e w' ⟨rfl, hb⟩) | (go_at_call 17; refine calls_at (H17.out _ (Tl.rest (by assumption))) (by with_reducible rfl) (by with_reducible rfl) ?_; rintro e w' ⟨rfl, hb⟩) | (go_at_call 18; refine calls_at (H18.out _ (Tl.rest (by assumption))) (by with_reducible rfl) (by with_reducible rfl) ?_; rintro e w' ⟨rfl, hb⟩) | (go_at_call 19; refine calls_at (H19.out _ (Tl.rest (by assumption))) (by with_reducible rfl) (by with_reducible rfl) ?_; rintro e w' ⟨rfl, hb⟩))
      rename_i hHeld
      have HFIN : Hid (Below W8.heap.size W8 _) := Tl.rest hHeld
      clear hHeld
      go_wp2_with fail
      go_roundw
      case rel => exact ⟨k + 1, by go_num, by omega, HFIN⟩
      case measure => simp [intOf]; omega
    · have hkI : ¬ (k : Int) < 2 := by omega
      rename World => wk
      obtain ⟨⟨p0, p1, p2, p3⟩, _⟩ := box4 (HAT.out _ hT.out).1
      obtain ⟨⟨q0, q1, q2, q3⟩, _⟩ := box4 (HAT.out _ hT.out).2.1
      go_wp2_with (first
        | (go_at_call 20; refine calls_at (H20.out _ hT.out) (by with_reducible rfl) (by with_reducible rfl) ?_; rintro e w20 ⟨rfl, hb20⟩; have HB20 : Hid (Below W8.heap.size W8 w20) := hT.out.trans (hb20.mono hT.out.size); clear hb20)
        | (go_at_call 21; refine calls_at (H21.out _ HB20.out) (by with_reducible rfl) (by with_reducible rfl) ?_; rintro e w21 ⟨rfl, hb21⟩; have HB21 : Hid (Below W8.heap.size W8 w21) := HB20.out.trans (hb21.mono HB20.out.size); clear hb21)
        | (go_at_call 22; refine calls_at (H22.out _ HB21.out) (by with_reducible rfl) (by with_reducible rfl) ?_; rintro e w22 ⟨rfl, hb22⟩; have HB22 : Hid (Below W8.heap.size W8 w22) := HB21.out.trans (hb22.mono HB21.out.size); clear hb22))
      go_ret
      exact ⟨rfl, (HAT.out _ HB22.out).2.2.2.2.2.2.2⟩
end Go.Proofs.YtmhfabnpfkkbcaaGreat
