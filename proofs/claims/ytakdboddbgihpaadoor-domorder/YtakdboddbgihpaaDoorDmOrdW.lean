/-
  DomOrder's walk.
-/
import Derived.Test.YtakdboddbgihpaaDoorJ50
import Derived.Test.YtakdboddbgihpaaDoorJ45
import Derived.Test.YtakdboddbgihpaaDoorDmCopied
namespace Go.Proofs.YtakdboddbgihpaaDoor
open Go.RowKit

theorem un27w : Tryd.prog.underlying 27 = some (.slice 34) := by kernel_rfl
theorem info34 : (Tryd.prog.info? 34).map (fun i => (i.zero, i.size, i.bytes)) = some (some (.agg #[.int .i64 0, .int .i64 0, .int .i64 0]), 3, 24) := by kernel_rfl

set_option maxRecDepth 10000 in
set_option maxHeartbeats 4000000 in
theorem domOrder_walk (m : Md.Mo) (vv vc vg : Value) (la : Option Addr) (lc : Nat) (L : List Ct) (turn : Int) (w : World) (h : MoAt w m vv vc vg) (hL : ∀ w', Below w.heap.size w w' → CtsAt w' la L) (hf : ∀ c ∈ m.cons, c.terms.length * 16 ≤ 140737488355328 ∧ c.xs.length * 8 ≤ 140737488355328 ∧ c.table.length * 8 ≤ 140737488355328) (hT : Tz w) (hs : 0 < w.heap.size) : Calls Tryd.prog 3 #[moVal m vv vc vg, .slice la L.length lc, .int .i64 turn] w fun e w' => e = .returned (.bool true) ∧ Below w.heap.size w w' := by
  have HL : Hid (∀ w', Below w.heap.size w w' → CtsAt w' la L) := hL
  obtain ⟨W, hW⟩ : ∃ W, w.alloc (.cells #[vv, vc, .bool m.has, vg] 26) = W := ⟨_, rfl⟩
  have hb0 : Below w.heap.size w W := by rw [← hW]; exact (Below.refl _ _).alloc (Nat.le_refl _) _
  have g0 : W.heap[w.heap.size]? = some (.cells #[vv, vc, .bool m.has, vg] 26 (0, 0)) := by rw [← hW]; exact heap_alloc_new w _
  have hlt := (Array.getElem?_eq_some_iff.1 g0).1
  have hsW : 0 < W.heap.size := Nat.lt_of_lt_of_le hs hb0.size
  have HB : Hid (Below w.heap.size w W) := hb0
  have HM : Hid (∀ w', Below W.heap.size W w' → w'.cell? ⟨w.heap.size, 0, none⟩ = some vv ∧ w'.cell? ⟨w.heap.size, 1, none⟩ = some vc ∧ w'.cell? ⟨w.heap.size, 2, none⟩ = some (.bool m.has) ∧ w'.cell? ⟨w.heap.size, 3, none⟩ = some vg ∧ Below W.heap.size W w') := fun w' hb => by
    have g1 := (hb.block _ hlt).trans g0
    exact ⟨cell_of g1 0, cell_of g1 1, cell_of g1 2, cell_of g1 3, hb⟩
  have HMo : Hid (∀ w', Below W.heap.size W w' → MoAt w' m vv vc vg) := fun w' hb => (h.below hb0).below hb
  have HTz : Hid (∀ w', Below W.heap.size W w' → Tz w') := fun w' hb => (hT.below hb0 hs).below hb hsW
  have HK : Hid (Calls Tryd.prog 5 #[] W fun e w' => e = .returned (.bool true) ∧ Below W.heap.size W w') := known_any W (hT.below hb0 hs) hsW
  have HF : Hid (∀ c ∈ m.cons, c.terms.length * 16 ≤ 140737488355328 ∧ c.xs.length * 8 ≤ 140737488355328 ∧ c.table.length * 8 ≤ 140737488355328) := hf
  clear hb0 g0 hlt h hL hT hf
  unfold moVal
  go_enter Tryd.func3, Tryd.ntmps3
  go_wp2_with fail
  refine calls_at HK.out (by with_reducible rfl) (by with_reducible rfl) ?_
  rintro e w1 ⟨rfl, hb1⟩
  have HB1 : Hid (Below W.heap.size W w1) := hb1
  obtain ⟨c0, c1, c2, c3, _⟩ := HM.out w1 hb1
  have HS1 : Hid (Calls Tryd.prog 6 #[.agg #[vv, vc, .bool m.has, vg], .slice none 0 0] w1 (SmOut m 0 w1)) := small_any m vv vc vg none 0 0 w1 (HMo.out w1 hb1)
  clear hb1 hW
  go_wp2_with fail
  refine calls_at HS1.out (by with_reducible rfl) (by with_reducible rfl) ?_
  rintro e w2 ⟨⟨sb1, rfl, hsb1⟩, hb2⟩
  have HB2 : Hid (Below W.heap.size W w2) := bl_next HB1.out hb2
  clear hb2 c0 c1 c2 c3
  cases sb1 with
  | false =>
    clear hsb1
    go_wp2_with fail
    go_ret
    exact ⟨rfl, HB.out.trans (HB2.out.mono HB.out.size)⟩
  | true =>
  have hsm := hsb1 rfl
  clear hsb1
  by_cases hl : 300 < L.length
  · have hlI : 300 < (L.length : Int) := by omega
    go_wp2_with fail
    go_ret
    exact ⟨rfl, HB.out.trans (HB2.out.mono HB.out.size)⟩
  have hlI : (L.length : Int) ≤ 300 := by omega
  have HCd : Hid (∀ w', Below W.heap.size W w' → Calls Tryd.prog 8 #[.agg #[vv, vc, .bool m.has, vg]] w' fun e w2 => ∃ vv2 vc2 vg2, e = .returned (.agg #[vv2, vc2, .bool m.has, vg2]) ∧ MoAt w2 m vv2 vc2 vg2 ∧ Below w'.heap.size w' w2) := fun w' hb => copied_any m vv vc vg w' (HMo.out w' hb) ⟨hsm.1, hsm.2.1, hsm.2.2.1, HF.out⟩
  have HNw : Hid (∀ (w' : World) (a b c : Value), Below W.heap.size W w' → MoAt w' m a b c → Calls Tryd.prog 7 #[.agg #[a, b, .bool m.has, c]] w' (NewOut m w')) := fun w' a b c hb hM => new_any m a b c w' hM (Nat.lt_of_lt_of_le hsW hb.size)
  go_wp2_with fail
  go_cut [7, 8] from 27 to 177 (fun s7 s8 wx => ∃ Ba Bb p q nv mv nw mw, s7 = .pointer (some ⟨p, 0, none⟩) ∧ s8 = .pointer (some ⟨q, 0, none⟩) ∧ Hid (Pr Ba Bb p q nv mv nw mw (newS m) (newS m) wx) ∧ Hid (W.heap.size ≤ Ba ∧ W.heap.size ≤ Bb) ∧ Hid (Below W.heap.size W wx))
  case first =>
    go_region_held3 (fun w' => w'.cell? ⟨w.heap.size, 0, none⟩ = some vv ∧ w'.cell? ⟨w.heap.size, 1, none⟩ = some vc ∧ w'.cell? ⟨w.heap.size, 2, none⟩ = some (.bool m.has) ∧ w'.cell? ⟨w.heap.size, 3, none⟩ = some vg ∧ Below W.heap.size W w')
      (first | exact HM.out _ (HB2.out.drew) | exact HM.out _ (bl_next (And.right (And.right (And.right (And.right (by assumption))))) (by assumption)) | assumption)
      (first
        | (go_at_call 7; refine calls_at (HNw.out w6 vv3 vc3 vg3 HB6.out HM6.out) (by with_reducible rfl) (by with_reducible rfl) ?_; rintro e w7 ⟨q, nw, mw, rfl, hA7, hb7⟩; (have HA7 : Hid (StAt w6.heap.size w7 q nw mw (newS m) ∧ Below w6.heap.size w6 w7) := ⟨hA7, hb7⟩); clear hA7)
        | (go_at_call 7; refine calls_at (HNw.out w4 vv2 vc2 vg2 HB4.out HM4.out) (by with_reducible rfl) (by with_reducible rfl) ?_; rintro e w5 ⟨p, nv, mv, rfl, hA5, hb5⟩; (have HA5 : Hid (StAt w4.heap.size w5 p nv mv (newS m)) := hA5); (have HB5 : Hid (Below W.heap.size W w5) := bl_next HB4.out hb5); clear hA5)
        | (go_at_call 8; refine calls_at (HCd.out w5 HB5.out) (by with_reducible rfl) (by with_reducible rfl) ?_; rintro e w6 ⟨vv3, vc3, vg3, rfl, hM6, hb6⟩; (have HM6 : Hid (MoAt w6 m vv3 vc3 vg3) := hM6); (have HB6 : Hid (Below W.heap.size W w6) := bl_next HB5.out hb6); (have HA6 : Hid (StAt w4.heap.size w6 p nv mv (newS m)) := HA5.out.below hb6); clear hM6)
        | (go_at_call 8; refine calls_at (HCd.out w2.drew HB2.out.drew) (by with_reducible rfl) (by with_reducible rfl) ?_; rintro e w4 ⟨vv2, vc2, vg2, rfl, hM4, hb4⟩; (have HM4 : Hid (MoAt w4 m vv2 vc2 vg2) := hM4); (have HB4 : Hid (Below W.heap.size W w4) := bl_next HB2.out.drew hb4); clear hM4))
    go_wp2_with fail
    go_meet
    exact ⟨w4.heap.size, w6.heap.size, p, q, nv, mv, nw, mw, rfl, rfl, Pr.of HA6.out HA7.out.2 HA7.out.1, ⟨HB4.out.size, HB6.out.size⟩, bl_next HB6.out HA7.out.2⟩
  case rest =>
    obtain ⟨Ba, Bb, p, q, nv, mv, nw, mw, rfl, rfl, HP, HZ, HBx⟩ := hcut
    rename World => wx
    obtain ⟨kk, hk1, hk2⟩ : ∃ kk : Nat, (0 < L.length → (wrap64 (turn.tmod (L.length : Int) + (L.length : Int))).tmod (L.length : Int) = (kk : Int) ∧ kk < L.length) ∧ (¬ 0 < L.length → kk = 0) := by
      by_cases h0 : 0 < L.length
      · obtain ⟨kk, e1, e2⟩ := turn_at turn L.length h0 (by omega)
        exact ⟨kk, fun _ => ⟨e1, e2⟩, fun h => absurd h0 h⟩
      · exact ⟨0, fun h => absurd h h0, fun _ => rfl⟩
    have hkl : kk ≤ L.length := by
      by_cases h0 : 0 < L.length
      · exact Nat.le_of_lt (hk1 h0).2
      · have := hk2 h0; omega
    have HK1 : Hid (0 < L.length → (wrap64 (turn.tmod (L.length : Int) + (L.length : Int))).tmod (L.length : Int) = (kk : Int) ∧ kk < L.length) := hk1
    have HK2 : Hid (¬ 0 < L.length → kk = 0) := hk2
    clear hk1 hk2
    go_upto_if 41 with fail
    go_cut [10] from 39 to 177 (fun s10 wy => s10 = .int .i64 (kk : Int) ∧ wx = wy)
    case first =>
      by_cases hn : 0 < L.length
      · have hnI : 0 < (L.length : Int) := by omega
        have he := (HK1.out hn).1
        go_wp2_with fail
        go_meet
        exact ⟨rfl, rfl⟩
      · have hnI : ¬ 0 < (L.length : Int) := by omega
        have hke := HK2.out hn
        subst hke
        go_wp2_with fail
        go_meet
        exact ⟨rfl, rfl⟩
    case rest =>
    obtain ⟨rfl, rfl⟩ := hcut
    clear HK1 HK2
    go_wp2_with fail
    go_loopw [9, 11] (fun ov iv wr => ∃ (k : Nat), iv = .int .i64 (k : Int) ∧ k ≤ L.length ∧ Hid (wr.ownsRow wx.heap.size 34 3 ov k (cts (othr L kk k))) ∧ Hid (Below wx.heap.size wx wr)) (fun _ iv _ => L.length - (intOf iv).toNat)
    case atStart => exact ⟨0, rfl, Nat.zero_le _, World.ownsRow_nil _ _ _ _, Below.refl _ _⟩
    case round =>
    obtain ⟨k, rfl, hk, HO, HBr⟩ := hrel
    have HWr : Hid (Below w.heap.size w wr) := HB.out.trans ((HBx.out.trans (HBr.out.mono HBx.out.size)).mono HB.out.size)
    have HWr2 : Hid (Below W.heap.size W wr) := HBx.out.trans (HBr.out.mono HBx.out.size)
    by_cases hkn : k < L.length
    · have hkI : (k : Int) < (L.length : Int) := by omega
      obtain ⟨hq, hoth⟩ := othr_succ L kk k (by omega)
      have hidx := other_at k kk L.length (by omega)
      obtain ⟨b, off, rfl, f0, f1, f2⟩ := HL.out wr HWr.out _ hq
      obtain ⟨o, ho⟩ : ∃ o, L[L.length - 1 - (k + kk) % L.length] = o := ⟨_, rfl⟩
      rw [ho] at f0 f1 f2 hoth
      have hq2 : ((L.length - 1 - (k + kk) % L.length : Nat) : Int) < (L.length : Int) := by omega
      obtain ⟨j, hj⟩ : ∃ j, L.length - 1 - (k + kk) % L.length = j := ⟨_, rfl⟩
      rw [hj] at f0 f1 f2 hidx hq2
      have HO2 : Hid (∀ (w2 : World) (v2 : Value), w2.ownsRow wx.heap.size 34 3 v2 (k + 1) (cts (othr L kk k) ++ [.int .i64 o.k, .int .i64 o.x, .int .i64 o.v]) → w2.ownsRow wx.heap.size 34 3 v2 (k + 1) (cts (othr L kk (k + 1)))) := fun w2 v2 h => by rw [hoth, cts_snoc]; exact h
      have hkL : (kk : Int) ≤ (L.length : Int) := by omega
      have Hone : Hid (∀ u ∈ ([.int .i64 o.k, .int .i64 o.x, .int .i64 o.v] : List Value), u.oneCell' = true) := by
        intro u hu
        simp only [List.mem_cons, List.not_mem_nil, or_false] at hu
        rcases hu with rfl | rfl | rfl <;> rfl
      clear ho hj hoth hq
      go_wp2_with (at_builtin; refine append_els wr [.int .i64 o.k, .int .i64 o.x, .int .i64 o.v] 3 rfl (by decide) rfl (.tmp 58) (.tmp 72) 27 34 (.agg #[.int .i64 0, .int .i64 0, .int .i64 0]) 24 rfl un27w info34 rfl wx.heap.size _ k _ (by rfl) HO.out Hone.out _ rfl (by rfl) (by unfold maxLen; omega) (by omega) HBr.out.size ?_; intro v2 w2 ho2 hg2 hn2)
      have HO3 : Hid (w2.ownsRow wx.heap.size 34 3 v2 (k + 1) (cts (othr L kk (k + 1)))) := HO2.out w2 v2 ho2
      have HB3 : Hid (Below wx.heap.size wx w2) := (HBr.out.alloc HBr.out.size _).grown hg2 (by have := HBr.out.size; simp; omega) (fun g hg => (HO.out.lt g hg).1)
      clear ho2 hg2 hn2
      go_wp2_with fail
      go_roundw
      case rel => exact ⟨k + 1, by go_num, hkn, HO3, HB3⟩
      case measure => simp [intOf]; omega
    · have hke : k = L.length := by omega
      subst hke
      have hkI : ¬ (L.length : Int) < (L.length : Int) := by omega
      obtain ⟨oa, oc, rfl⟩ := own_slice HO.out
      have HPr : Hid (Pr Ba Bb p q nv mv nw mw (newS m) (newS m) wr) := HP.out.below HBr.out
      have HOw : Hid (∀ g, Own p nv mv g → g < wx.heap.size) := fun g hg => own_lt HP.out.a hg
      have HOw2 : Hid (∀ g, Own q nw mw g → g < wx.heap.size) := fun g hg => own_lt HP.out.b hg
      have HLa : Hid (∀ w0 w', Below W.heap.size W w0 → Stp Ba p nv mv w0 w' → CtsAt w' la L) := fun w0 w' h0 hs => HL.out w' (HB.out.trans ((h0.trans (hs.below.mono HZ.out.1)).mono HB.out.size))
      have HC1 : Hid (Calls Tryd.prog 9 #[.pointer (some ⟨p, 0, none⟩), .slice la L.length lc] wr (CtOut Ba p nv mv (newS m) L wr)) := cuts_any Ba p nv mv (newS m) la lc L wr HPr.out.a (fun w' hs => HLa.out wr w' HWr2.out hs) (by omega)
      go_wp2_with fail
      refine calls_at HC1.out (by with_reducible rfl) (by with_reducible rfl) ?_
      rintro e w3 ⟨he, hA3, hS3⟩
      have HB3 : Hid (Below W.heap.size W w3) := HWr2.out.trans (hS3.below.mono HZ.out.1)
      cases hc1 : (newS m).cuts L with
      | none =>
        rw [hc1] at he
        replace he : e = .returned (.bool false) := he
        subst he
        clear hc1 hA3 hS3
        go_wp2_with fail
        go_ret
        exact ⟨rfl, HB.out.trans (HB3.out.mono HB.out.size)⟩
      | some t =>
      rw [hc1] at he
      replace he : e = .returned (.bool true) := he
      subst he
      have HC1' : Hid ((newS m).cuts L = some t) := hc1
      have HP3 : Hid (Pr Ba Bb p q nv mv nw mw t (newS m) w3) := HPr.out.stepA (hA3 t hc1) hS3
      have HO3 : Hid (w3.ownsRow wx.heap.size 34 3 (.slice oa L.length oc) L.length (cts (othr L kk L.length))) := own_off HO.out (fun g hg e => by have := HOw.out g e; have := (HO.out.lt g hg).1; omega) hS3.off
      have HC2 : Hid (Calls Tryd.prog 9 #[.pointer (some ⟨q, 0, none⟩), .slice oa L.length oc] w3 (CtOut Bb q nw mw (newS m) (othr L kk L.length) w3)) := by
        have := cuts_any Bb q nw mw (newS m) oa oc (othr L kk L.length) w3 HP3.out.b (fun w' hs => own_cts (own_off HO3.out (fun g hg e => by have := HOw2.out g e; have := (HO3.out.lt g hg).1; omega) hs.off)) (by rw [othr_len]; omega)
        rw [othr_len] at this
        exact this
      clear hc1 hA3 hS3
      go_wp2_with fail
      refine calls_at HC2.out (by with_reducible rfl) (by with_reducible rfl) ?_
      rintro e w4 ⟨he, hA4, hS4⟩
      have HB4 : Hid (Below W.heap.size W w4) := HB3.out.trans (hS4.below.mono HZ.out.2)
      cases hc2 : (newS m).cuts (othr L kk L.length) with
      | none =>
        rw [hc2] at he
        replace he : e = .returned (.bool false) := he
        subst he
        clear hc2 hA4 hS4
        go_wp2_with fail
        go_ret
        exact ⟨rfl, HB.out.trans (HB4.out.mono HB.out.size)⟩
      | some u =>
      rw [hc2] at he
      replace he : e = .returned (.bool true) := he
      subst he
      have HP4 : Hid (Pr Ba Bb p q nv mv nw mw t u w4) := HP3.out.stepB (hA4 u hc2) hS4
      have HSm : Hid (u.now = t.now) := (cuts_order (new_good m) (othr_mem L kk hkl) HC1'.out hc2).symm
      have HAg : Hid (t.cuts L = some t) := cuts_again (new_good m) HC1'.out L (fun c h => h)
      clear hc2 hA4 hS4 HC1 HC2
      go_wp2_with fail
      refine calls_at (same_any _ p _ q _ _ _ _ _ _ w4 HP4.out.a HP4.out.b HSm.out (HTz.out _ HB4.out)) (by with_reducible rfl) (by with_reducible rfl) ?_
      rintro e w5 ⟨rfl, hb5⟩
      have HP5 : Hid (Pr Ba Bb p q nv mv nw mw t u w5) := HP4.out.below hb5
      have HB5 : Hid (Below W.heap.size W w5) := bl_next HB4.out hb5
      have HC3 : Hid (Calls Tryd.prog 9 #[.pointer (some ⟨p, 0, none⟩), .slice la L.length lc] w5 (CtOut Ba p nv mv t L w5)) := cuts_any Ba p nv mv t la lc L w5 HP5.out.a (fun w' hs => HLa.out w5 w' HB5.out hs) (by omega)
      clear hb5
      go_wp2_with fail
      refine calls_at HC3.out (by with_reducible rfl) (by with_reducible rfl) ?_
      rintro e w6 ⟨he, hA6, hS6⟩
      rw [HAg.out] at he
      replace he : e = .returned (.bool true) := he
      subst he
      have HP6 : Hid (Pr Ba Bb p q nv mv nw mw t u w6) := HP5.out.stepA (hA6 t HAg.out) hS6
      have HB6 : Hid (Below W.heap.size W w6) := HB5.out.trans (hS6.below.mono HZ.out.1)
      clear hA6 hS6
      go_wp2_with fail
      refine calls_at (same_any _ p _ q _ _ _ _ _ _ w6 HP6.out.a HP6.out.b HSm.out (HTz.out _ HB6.out)) (by with_reducible rfl) (by with_reducible rfl) ?_
      rintro e w7 ⟨rfl, hb7⟩
      have HA7 : Hid (StAt Ba w7 p nv mv t) := HP6.out.a.below hb7
      have HB7 : Hid (Below W.heap.size W w7) := bl_next HB6.out hb7
      have HTl : Hid (t.now.length = (newS m).now.length) := (cuts_bits (new_good m) HC1'.out).2.1
      have h32 : (t.now.length : Int) ≤ 32 := by have := HA7.out.n32; omega
      clear hb7 HC3 HPr HP3 HP4 HP5 HP6 HO3
      go_wp2_with fail
      go_loopw [12] (fun iv wr => ∃ (k : Nat), iv = .int .i64 (k : Int) ∧ k ≤ t.now.length ∧ Hid (Below w7.heap.size w7 wr)) (fun iv _ => t.now.length - (intOf iv).toNat)
      case atStart => exact ⟨0, rfl, Nat.zero_le _, Below.refl _ _⟩
      case round =>
      obtain ⟨y, rfl, hy, HBy⟩ := hrel
      rename World => wy
      have HAy : Hid (StAt Ba wy p nv mv t) := HA7.out.below HBy.out
      have HWy : Hid (Below W.heap.size W wy) := bl_next HB7.out HBy.out
      have HV : Hid (Calls Tryd.prog 11 #[.pointer (some ⟨p, 0, none⟩)] wy fun e w' => e = .returned (.int .i64 (t.now.length : Int)) ∧ w' = wy) := vars_any Ba p nv mv t wy HAy.out
      by_cases hyn : y < t.now.length
      · have hyI : (y : Int) < (t.now.length : Int) := by omega
        have hR : (Md.check m).2 = 0 := new_right (by rw [← HTl.out]; exact Nat.lt_of_le_of_lt (Nat.zero_le _) hyn)
        have hyv : y < m.vars.length := by rw [← new_len hR, ← HTl.out]; exact hyn
        have hbd := Md.bounds_of ((Md.right_of hR).var m.vars[y] (List.getElem_mem hyv)).2
        have HG : Hid (∀ v, m.vars[y].lo ≤ v → v ≤ m.vars[y].hi → dHas t.now[y].f t.now[y].a t.now[y].b v = !(goesB L y v)) := fun v h1 h2 => has_goes hR HC1'.out y hyv hyn v h1 h2
        obtain ⟨va, vcap, rfl, hvl, _, hvc⟩ := (HMo.out wy HWy.out).v
        obtain ⟨b, off, rfl, hbs, hcell⟩ := hvc (by omega)
        obtain ⟨_, k1, k2⟩ := hcell y hyv
        have hyvI : (y : Int) < (m.vars.length : Int) := by omega
        obtain ⟨lo, hlo⟩ : ∃ lo, m.vars[y].lo = lo := ⟨_, rfl⟩
        obtain ⟨hi, hhi⟩ : ∃ hi, m.vars[y].hi = hi := ⟨_, rfl⟩
        rw [hlo] at k1 hbd HG
        rw [hhi] at k2 hbd HG
        obtain ⟨⟨b1, b2⟩, ⟨b3, b4⟩, b5, b6⟩ := hbd
        have HQ : Hid (∀ w', Below wy.heap.size wy w' → w'.cell? ⟨w.heap.size, 0, none⟩ = some (.slice (some ⟨b, off, none⟩) m.vars.length vcap) ∧ w'.cell? ⟨b, off + y * 3 + 1, none⟩ = some (.int .i64 lo) ∧ w'.cell? ⟨b, off + y * 3 + 2, none⟩ = some (.int .i64 hi)) := fun w' hb => ⟨(HM.out w' (bl_next HWy.out hb)).1, (hb.cell (p := ⟨b, _, none⟩) hbs).trans k1, (hb.cell (p := ⟨b, _, none⟩) hbs).trans k2⟩
        have HLy : Hid (∀ w', Below wy.heap.size wy w' → CtsAt w' la L) := fun w' hb => HL.out w' (HB.out.trans ((bl_next HWy.out hb).mono HB.out.size))
        have HHs : Hid (∀ w' v, Below wy.heap.size wy w' → Calls Tryd.prog 12 #[.pointer (some ⟨p, 0, none⟩), .int .i64 (y : Int), .int .i64 v] w' fun e w2 => e = .returned (.bool (dHas t.now[y].f t.now[y].a t.now[y].b v)) ∧ Below w'.heap.size w' w2) := fun w' v hb => has_in Ba p nv mv t y hyn v w' (HAy.out.below hb)
        clear hcell hvc k1 k2 hR hlo hhi
        obtain ⟨c0, c1, c2⟩ := HQ.out wy (Below.refl _ _)
        go_wp2_with fail
        refine calls_at HV.out (by with_reducible rfl) (by with_reducible rfl) ?_
        rintro e w8 ⟨rfl, hw8⟩
        rw [hw8]
        clear hw8
        go_wp2_with fail
        clear c0 c1 c2
        go_loopw [13] (fun sv wr => ∃ (j : Nat), sv = .int .i64 (lo + (j : Int)) ∧ lo + (j : Int) ≤ hi + 1 ∧ Hid (Below wy.heap.size wy wr)) (fun sv _ => (hi + 1 - intOf sv).toNat)
        case atStart => exact ⟨0, by simp, by simp; omega, Below.refl _ _⟩
        case round =>
        obtain ⟨j, rfl, hj, HBj⟩ := hrel
        rename World => wj
        obtain ⟨c0, c1, c2⟩ := HQ.out wj HBj.out
        by_cases hjn : lo + (j : Int) ≤ hi
        · go_wp2_with fail
          clear c0 c1 c2
          go_loopw [14, 15] (fun gv iv wr => ∃ (i : Nat), iv = .int .i64 (i : Int) ∧ gv = .bool (goesB (L.take i) y (lo + (j : Int))) ∧ i ≤ L.length ∧ Hid (Below wy.heap.size wy wr)) (fun _ iv _ => L.length - (intOf iv).toNat)
          case atStart => exact ⟨0, rfl, rfl, Nat.zero_le _, HBj⟩
          case round =>
          obtain ⟨i, rfl, rfl, hi2, HBi⟩ := hrel
          rename World => wi
          by_cases hin : i < L.length
          · have hiI : (i : Int) < (L.length : Int) := by omega
            obtain ⟨b7, off7, rfl, f0, f1, f2⟩ := HLy.out wi HBi.out i hin
            have hnx := goes_next L i hin y (lo + (j : Int))
            obtain ⟨o, ho⟩ : ∃ o, L[i] = o := ⟨_, rfl⟩
            obtain ⟨g, hg⟩ : ∃ g, goesB (L.take i) y (lo + (j : Int)) = g := ⟨_, rfl⟩
            rw [ho] at f0 f1 f2 hnx
            rw [hg] at hnx
            rw [hg]
            have HN : Hid (goesB (L.take (i + 1)) y (lo + (j : Int)) = (g || (decide (o.x = (y : Int)) && takesB o.k o.v (lo + (j : Int))))) := hnx
            have HBz : Hid (Below wy.heap.size wy (wi.alloc (.cells #[.int .i64 o.k, .int .i64 o.x, .int .i64 o.v] 34))) := HBi.out.alloc HBi.out.size _
            clear ho hg hnx
            cases g with
            | true =>
              have HV2 : Hid (goesB (L.take (i + 1)) y (lo + (j : Int)) = true) := by show _ = _; rw [HN.out]; rfl
              go_wp2_with fail
              go_roundw
              case rel => exact ⟨i + 1, by go_num, by rw [HV2.out], hin, HBz⟩
              case measure => simp [intOf]; omega
            | false =>
            by_cases hx : o.x = (y : Int)
            case neg =>
              have hxB : (o.x == (y : Int)) = false := by simpa using hx
              have HV2 : Hid (goesB (L.take (i + 1)) y (lo + (j : Int)) = false) := by show _ = _; rw [HN.out]; simp [hx]
              clear hx
              go_wp2_with fail
              go_roundw
              case rel => exact ⟨i + 1, by go_num, by rw [HV2.out], hin, HBz⟩
              case measure => simp [intOf]; omega
            case pos =>
            have hxB : (o.x == (y : Int)) = true := by simpa using hx
            have HTk : Hid (goesB (L.take (i + 1)) y (lo + (j : Int)) = takesB o.k o.v (lo + (j : Int))) := by show _ = _; rw [HN.out]; simp [hx]
            clear hx HN
            by_cases hk1 : o.k = 1
            case pos =>
              have q1 : (o.k == 1) = true := by simpa using hk1
              have q2 : (o.k == 2) = false := by simp [hk1]
              have q3 : (o.k == 3) = false := by simp [hk1]
              by_cases hv : lo + (j : Int) < o.v
              case pos =>
                have HV2 : Hid (goesB (L.take (i + 1)) y (lo + (j : Int)) = true) := by show _ = _; rw [HTk.out]; simp [takesB, hk1, hv]
                clear hk1
                go_wp2_with fail
                go_roundw
                case rel => exact ⟨i + 1, by go_num, by rw [HV2.out], hin, HBz⟩
                case measure => simp [intOf]; omega
              case neg =>
                have HV2 : Hid (goesB (L.take (i + 1)) y (lo + (j : Int)) = false) := by show _ = _; rw [HTk.out]; simp [takesB, hk1, hv]
                clear hk1
                go_wp2_with fail
                go_roundw
                case rel => exact ⟨i + 1, by go_num, by rw [HV2.out], hin, HBz⟩
                case measure => simp [intOf]; omega
            case neg =>
            have q1 : (o.k == 1) = false := by simpa using hk1
            by_cases hk2 : o.k = 2
            case pos =>
              have q2 : (o.k == 2) = true := by simpa using hk2
              have q3 : (o.k == 3) = false := by simp [hk2]
              by_cases hv : o.v < lo + (j : Int)
              case pos =>
                have HV2 : Hid (goesB (L.take (i + 1)) y (lo + (j : Int)) = true) := by show _ = _; rw [HTk.out]; simp [takesB, hk2, hv]
                clear hk1 hk2
                go_wp2_with fail
                go_roundw
                case rel => exact ⟨i + 1, by go_num, by rw [HV2.out], hin, HBz⟩
                case measure => simp [intOf]; omega
              case neg =>
                have HV2 : Hid (goesB (L.take (i + 1)) y (lo + (j : Int)) = false) := by show _ = _; rw [HTk.out]; simp [takesB, hk2, hv]
                clear hk1 hk2
                go_wp2_with fail
                go_roundw
                case rel => exact ⟨i + 1, by go_num, by rw [HV2.out], hin, HBz⟩
                case measure => simp [intOf]; omega
            case neg =>
            have q2 : (o.k == 2) = false := by simpa using hk2
            by_cases hk3 : o.k = 3
            case pos =>
              have q3 : (o.k == 3) = true := by simpa using hk3
              by_cases hv : lo + (j : Int) = o.v
              case pos =>
                have hvB : (lo + (j : Int) == o.v) = true := by simpa using hv
                have HV2 : Hid (goesB (L.take (i + 1)) y (lo + (j : Int)) = true) := by show _ = _; rw [HTk.out]; simp [takesB, hk3, hv]
                clear hk1 hk2 hk3 hv
                go_wp2_with fail
                go_roundw
                case rel => exact ⟨i + 1, by go_num, by rw [HV2.out], hin, HBz⟩
                case measure => simp [intOf]; omega
              case neg =>
                have hvB : (lo + (j : Int) == o.v) = false := by simpa using hv
                have HV2 : Hid (goesB (L.take (i + 1)) y (lo + (j : Int)) = false) := by show _ = _; rw [HTk.out]; simp [takesB, hk3, hv]
                clear hk1 hk2 hk3 hv
                go_wp2_with fail
                go_roundw
                case rel => exact ⟨i + 1, by go_num, by rw [HV2.out], hin, HBz⟩
                case measure => simp [intOf]; omega
            case neg =>
              have q3 : (o.k == 3) = false := by simpa using hk3
              have HV2 : Hid (goesB (L.take (i + 1)) y (lo + (j : Int)) = false) := by show _ = _; rw [HTk.out]; simp [takesB, hk1, hk2, hk3]
              clear hk1 hk2 hk3
              go_wp2_with fail
              go_roundw
              case rel => exact ⟨i + 1, by go_num, by rw [HV2.out], hin, HBz⟩
              case measure => simp [intOf]; omega
          · have hie : i = L.length := by omega
            subst hie
            have hiI : ¬ (L.length : Int) < (L.length : Int) := by omega
            rw [List.take_length]
            have HHi := HHs.out wi (lo + (j : Int)) HBi.out
            have hgo := HG.out (lo + (j : Int)) (by omega) hjn
            rw [hgo] at HHi
            obtain ⟨g, hg⟩ : ∃ g, goesB L y (lo + (j : Int)) = g := ⟨_, rfl⟩
            rw [hg] at HHi
            rw [hg]
            have HHi' : Hid (Calls Tryd.prog 12 #[.pointer (some ⟨p, 0, none⟩), .int .i64 (y : Int), .int .i64 (lo + (j : Int))] wi fun e w2 => e = .returned (.bool (!g)) ∧ Below wi.heap.size wi w2) := HHi
            clear hg hgo HHi
            cases g with
            | true =>
              go_wp2_with fail
              refine calls_at HHi'.out (by with_reducible rfl) (by with_reducible rfl) ?_
              rintro e w9 ⟨rfl, hb9⟩
              have HB9 : Hid (Below wy.heap.size wy w9) := HBi.out.trans (hb9.mono HBi.out.size)
              clear hb9
              go_wp2_with fail
              go_roundw
              case rel => exact ⟨j + 1, by go_num, by omega, HB9⟩
              case measure => simp [intOf]; omega
            | false =>
              go_wp2_with fail
              refine calls_at HHi'.out (by with_reducible rfl) (by with_reducible rfl) ?_
              rintro e w9 ⟨rfl, hb9⟩
              have HB9 : Hid (Below wy.heap.size wy w9) := HBi.out.trans (hb9.mono HBi.out.size)
              clear hb9
              go_wp2_with fail
              go_roundw
              case rel => exact ⟨j + 1, by go_num, by omega, HB9⟩
              case measure => simp [intOf]; omega
        · have hjB : ¬ lo + (j : Int) ≤ hi := hjn
          have HBj2 : Hid (Below w7.heap.size w7 wj) := HBy.out.trans (HBj.out.mono HBy.out.size)
          go_wp2_with fail
          go_roundw
          case rel => exact ⟨y + 1, by go_num, hyn, HBj2⟩
          case measure => simp [intOf]; omega
      · have hyI : ¬ (y : Int) < (t.now.length : Int) := by omega
        go_wp2_with fail
        refine calls_at HV.out (by with_reducible rfl) (by with_reducible rfl) ?_
        rintro e w8 ⟨rfl, rfl⟩
        go_wp2_with fail
        go_ret
        exact ⟨rfl, HB.out.trans (HWy.out.mono HB.out.size)⟩
end Go.Proofs.YtakdboddbgihpaaDoor
