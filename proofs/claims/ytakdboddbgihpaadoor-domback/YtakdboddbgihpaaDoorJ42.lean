/-
  Put together: DmLight, DmKnown.
-/
import Derived.Test.YtakdboddbgihpaaDoorJ40
import Derived.Test.YtakdboddbgihpaaDoorDmKn0
namespace Go.Proofs.YtakdboddbgihpaaDoor
open Go.RowKit

set_option maxRecDepth 10000 in
set_option maxHeartbeats 1000000 in
theorem light_any (m : Md.Mo) (vv vc vg : Value) (w : World) (h : MoAt w m vv vc vg) : Calls Tryd.prog 24 #[moVal m vv vc vg] w fun e w' => (∃ b, e = .returned (.bool b)) ∧ Below w.heap.size w w' := by
  obtain ⟨va, vp, rfl, hvm, _, hvo⟩ := id h.v
  obtain ⟨ca, cp, rfl, hcm, hco⟩ := id h.c
  have HVC : Hid (∀ w', Below w.heap.size w w' → ∀ j (hj : j < m.vars.length), ∃ b off, va = some ⟨b, off, none⟩ ∧ w'.cell? ⟨b, off + j * 3, none⟩ = some (.string m.vars[j].name)) := fun w' hb j hj => by
    obtain ⟨b, off, e1, e2, e3⟩ := hvo (by omega)
    exact ⟨b, off, e1, (hb.cell (p := ⟨b, off + j * 3, none⟩) e2).trans (e3 j hj).1⟩
  have HCC : Hid (∀ w', Below w.heap.size w w' → ∀ j (hj : j < m.cons.length), ∃ b off ta tl tc xa xl xc ba bl bc, ca = some ⟨b, off, none⟩ ∧ w'.cell? ⟨b, off + j * 10 + 2, none⟩ = some (.slice ta tl tc) ∧ w'.cell? ⟨b, off + j * 10 + 7, none⟩ = some (.slice xa xl xc) ∧ w'.cell? ⟨b, off + j * 10 + 8, none⟩ = some (.slice ba bl bc)) := fun w' hb j hj => by
    obtain ⟨b, off, e1, e2, e3⟩ := hco (by omega)
    obtain ⟨vt, vx, vb, vr, f1, f2⟩ := e3 j hj
    obtain ⟨ta, tc, rfl, _⟩ := f1.t.form
    obtain ⟨xa, xc, rfl, _⟩ := f1.x.form
    obtain ⟨ba, bc, rfl, _⟩ := f1.b.form
    obtain ⟨_, _, q2, _, _, _, _, q7, q8, _⟩ := f2
    exact ⟨b, off, _, _, _, _, _, _, _, _, _, e1, (hb.cell (p := ⟨b, off + j * 10 + 2, none⟩) e2).trans q2, (hb.cell (p := ⟨b, off + j * 10 + 7, none⟩) e2).trans q7, (hb.cell (p := ⟨b, off + j * 10 + 8, none⟩) e2).trans q8⟩
  obtain ⟨ga, gp, rfl, hgm⟩ := h.g.form
  obtain ⟨W, hW⟩ : ∃ W, w.alloc (.cells #[.slice va m.vars.length vp, .slice ca m.cons.length cp, .bool m.has, .slice ga m.goal.length gp] 26) = W := ⟨_, rfl⟩
  have hb0 : Below w.heap.size w W := by rw [← hW]; exact (Below.refl _ _).alloc (Nat.le_refl _) _
  have g0 : W.heap[w.heap.size]? = some (.cells #[.slice va m.vars.length vp, .slice ca m.cons.length cp, .bool m.has, .slice ga m.goal.length gp] 26 (0, 0)) := by rw [← hW]; exact heap_alloc_new w _
  have hlt := (Array.getElem?_eq_some_iff.1 g0).1
  have HB : Hid (Below w.heap.size w W) := hb0
  have HM : Hid (∀ w', Below W.heap.size W w' → w'.cell? ⟨w.heap.size, 0, none⟩ = some (.slice va m.vars.length vp) ∧ w'.cell? ⟨w.heap.size, 1, none⟩ = some (.slice ca m.cons.length cp)) := fun w' hb => ⟨(hb.cell (p := ⟨w.heap.size, 0, none⟩) hlt).trans (cell_of g0 0), (hb.cell (p := ⟨w.heap.size, 1, none⟩) hlt).trans (cell_of g0 1)⟩
  unfold maxLen at hvm hcm
  clear hb0 g0 hlt h hvo hco
  unfold moVal
  go_enter Tryd.func24, Tryd.ntmps24
  go_wp2_with fail
  go_loopw [3, 4] (fun nv iv wr => ∃ (k : Nat) (n : Int), nv = .int .i64 n ∧ iv = .int .i64 (k : Int) ∧ k ≤ m.cons.length ∧ Hid (Below W.heap.size W wr)) (fun _ iv _ => m.cons.length - (intOf iv).toNat)
  case atStart => exact ⟨0, 0, rfl, rfl, Nat.zero_le _, Below.refl _ _⟩
  case round =>
    obtain ⟨k, n, rfl, rfl, hk, HBr⟩ := hrel
    obtain ⟨d0, d1⟩ := HM.out wr HBr.out
    by_cases hgo : k < m.cons.length ∧ n ≤ 65536
    · obtain ⟨hkn, hn⟩ := hgo
      have hkI : (k : Int) < (m.cons.length : Int) := by omega
      obtain ⟨b, off, ta, tl, tc, xa, xl, xc, ba, bl, bc, rfl, x2, x7, x8⟩ := HCC.out wr (HB.out.trans (HBr.out.mono HB.out.size)) k hkn
      go_wp2_with fail
      go_region
      have HBd : Hid (Below W.heap.size W wr.drew) := HBr.out.drew
      go_wp2_with fail
      go_roundw
      case rel => exact ⟨k + 1, _, rfl, by go_num, hkn, HBd⟩
      case measure => simp [intOf]; omega
    · have hout : ((k : Int) < (m.cons.length : Int) ∧ 65536 < n) ∨ (m.cons.length : Int) ≤ (k : Int) := by omega
      rcases hout with ⟨ho1, ho2⟩ | ho1
      all_goals
        go_wp2_with fail
        go_loopw [3, 5] (fun nv iv wr => ∃ (k : Nat) (n : Int), nv = .int .i64 n ∧ iv = .int .i64 (k : Int) ∧ k ≤ m.vars.length ∧ Hid (Below W.heap.size W wr)) (fun _ iv _ => m.vars.length - (intOf iv).toNat)
        case atStart => exact ⟨0, n, rfl, rfl, Nat.zero_le _, HBr⟩
        case round =>
          obtain ⟨k2, n2, rfl, rfl, hk2, HB2⟩ := hrel
          obtain ⟨f0, f1⟩ := HM.out wr HB2.out
          have hHB2 : Hid (Below w.heap.size w wr) := HB.out.trans (HB2.out.mono HB.out.size)
          by_cases hgo2 : k2 < m.vars.length ∧ n2 ≤ 65536
          · obtain ⟨hkn2, hn2⟩ := hgo2
            have hkI2 : (k2 : Int) < (m.vars.length : Int) := by omega
            obtain ⟨b, off, rfl, y0⟩ := HVC.out wr hHB2.out k2 hkn2
            go_wp2_with fail
            go_roundw
            case rel => exact ⟨k2 + 1, _, rfl, by go_num, hkn2, HB2⟩
            case measure => simp [intOf]; omega
          · have hout2 : ((k2 : Int) < (m.vars.length : Int) ∧ 65536 < n2) ∨ (m.vars.length : Int) ≤ (k2 : Int) := by omega
            rcases hout2 with ⟨hp1, hp2⟩ | hp1
            all_goals
              go_wp2_with fail
              go_ret
              exact ⟨⟨_, rfl⟩, hHB2.out⟩

/-- What small leaves. -/
def SmOut (m : Md.Mo) (ln : Nat) (w : World) (e : Ending) (w' : World) : Prop := (∃ b, e = .returned (.bool b) ∧ (b = true → m.vars.length ≤ 300 ∧ m.cons.length ≤ 300 ∧ m.goal.length ≤ 300 ∧ ln ≤ 300)) ∧ Below w.heap.size w w'
set_option maxRecDepth 10000 in
set_option maxHeartbeats 1000000 in
theorem small_any (m : Md.Mo) (vv vc vg : Value) (la : Option Addr) (ln lc : Nat) (w : World) (h : MoAt w m vv vc vg) : Calls Tryd.prog 6 #[moVal m vv vc vg, .slice la ln lc] w (SmOut m ln w) := by
  obtain ⟨va, vp, rfl, hvm, _, _⟩ := id h.v
  obtain ⟨ca, cp, rfl, hcm, _⟩ := id h.c
  obtain ⟨ga, gp, rfl, hgm⟩ := h.g.form
  obtain ⟨W, hW⟩ : ∃ W, w.alloc (.cells #[.slice va m.vars.length vp, .slice ca m.cons.length cp, .bool m.has, .slice ga m.goal.length gp] 26) = W := ⟨_, rfl⟩
  have hb0 : Below w.heap.size w W := by rw [← hW]; exact (Below.refl _ _).alloc (Nat.le_refl _) _
  have g0 : W.heap[w.heap.size]? = some (.cells #[.slice va m.vars.length vp, .slice ca m.cons.length cp, .bool m.has, .slice ga m.goal.length gp] 26 (0, 0)) := by rw [← hW]; exact heap_alloc_new w _
  have c0 : W.cell? ⟨w.heap.size, 0, none⟩ = some (.slice va m.vars.length vp) := cell_of g0 0
  have c1 : W.cell? ⟨w.heap.size, 1, none⟩ = some (.slice ca m.cons.length cp) := cell_of g0 1
  have c2 : W.cell? ⟨w.heap.size, 2, none⟩ = some (.bool m.has) := cell_of g0 2
  have c3 : W.cell? ⟨w.heap.size, 3, none⟩ = some (.slice ga m.goal.length gp) := cell_of g0 3
  have HB : Hid (Below w.heap.size w W) := hb0
  have HL : Hid (Calls Tryd.prog 24 #[.agg #[.slice va m.vars.length vp, .slice ca m.cons.length cp, .bool m.has, .slice ga m.goal.length gp]] W fun e w' => (∃ b, e = .returned (.bool b)) ∧ Below W.heap.size W w') := light_any m _ _ _ W (h.below hb0)
  clear h hb0 g0
  unfold moVal
  by_cases h1 : m.vars.length ≤ 300
  · have i1 : (m.vars.length : Int) ≤ 300 := by omega
    by_cases h2 : m.cons.length ≤ 300
    · have i2 : (m.cons.length : Int) ≤ 300 := by omega
      by_cases h3 : m.goal.length ≤ 300
      · have i3 : (m.goal.length : Int) ≤ 300 := by omega
        go_enter Tryd.func6, Tryd.ntmps6
        go_wp2_with fail
        refine calls_at HL.out (by with_reducible rfl) (by with_reducible rfl) ?_
        rintro e w1 ⟨⟨b, rfl⟩, hb1⟩
        have HB1 : Hid (Below w.heap.size w w1) := HB.out.trans (hb1.mono HB.out.size)
        clear hb1
        cases b with
        | false =>
          go_wp2_with fail
          go_ret
          exact ⟨⟨false, rfl, fun h => by cases h⟩, HB1.out⟩
        | true =>
          go_wp2_with fail
          go_ret
          exact ⟨⟨_, rfl, fun h => ⟨h1, h2, h3, by have := of_decide_eq_true h; omega⟩⟩, HB1.out⟩
      · have i3 : 300 < (m.goal.length : Int) := by omega
        go_enter Tryd.func6, Tryd.ntmps6
        go_wp2_with fail
        go_ret
        exact ⟨⟨false, rfl, fun h => by cases h⟩, HB.out⟩
    · have i2 : 300 < (m.cons.length : Int) := by omega
      go_enter Tryd.func6, Tryd.ntmps6
      go_wp2_with fail
      go_ret
      exact ⟨⟨false, rfl, fun h => by cases h⟩, HB.out⟩
  · have i1 : 300 < (m.vars.length : Int) := by omega
    go_enter Tryd.func6, Tryd.ntmps6
    go_wp2_with fail
    go_ret
    exact ⟨⟨false, rfl, fun h => by cases h⟩, HB.out⟩
end Go.Proofs.YtakdboddbgihpaaDoor

namespace Go.Proofs.YtakdboddbgihpaaDoor
open Go.RowKit

set_option maxRecDepth 10000 in
set_option maxHeartbeats 2000000 in
theorem known_any (w : World) (hT : Tz w) (hs : 0 < w.heap.size) : Calls Tryd.prog 5 #[] w fun e w' => e = .returned (.bool true) ∧ Below w.heap.size w w' := by
  obtain ⟨W, hW⟩ : ∃ W, w.alloc (.cells #[.string ⟨#[120]⟩, .int .i64 (-2), .int .i64 2] 39) = W := ⟨_, rfl⟩
  have hb0 : Below w.heap.size w W := by rw [← hW]; exact (Below.refl _ _).alloc (Nat.le_refl _) _
  have g0 : W.heap[w.heap.size]? = some (.cells #[.string ⟨#[120]⟩, .int .i64 (-2), .int .i64 2] 39 (0, 0)) := by rw [← hW]; exact heap_alloc_new w _
  have hsW : 0 < W.heap.size := Nat.lt_of_lt_of_le hs hb0.size
  have HB : Hid (Below w.heap.size w W) := hb0
  have HTz : Hid (∀ w', Below W.heap.size W w' → Tz w') := fun w' hb => (hT.below hb0 hs).below hb hsW
  have HNew : Hid (Calls Tryd.prog 7 #[.agg #[.slice (some ⟨w.heap.size, 0, none⟩) 1 1, .slice none 0 0, .bool false, .slice none 0 0]] W (fun e w' => ∃ p nv mv, e = .returned (.pointer (some ⟨p, 0, none⟩)) ∧ StAt W.heap.size w' p nv mv k0 ∧ Below W.heap.size W w')) := (new_any kM _ _ _ W (kM_at g0) hsW).mono fun e w' h => q_new kn0 h
  clear hb0 g0 hT
  go_enter Tryd.func5, Tryd.ntmps5
  go_wp2_with fail
  refine calls_at HNew.out (by with_reducible rfl) (by with_reducible rfl) ?_
  rintro e w1 ⟨p, nv, mv, rfl, hA1, hb1⟩
  have HA1 : Hid (StAt W.heap.size w1 p nv mv k0) := hA1
  have HB1 : Hid (Below W.heap.size W w1) := hb1
  clear hA1 hb1 hW
  go_wp2_with fail
  refine calls_at (q_vars HA1.out) (by with_reducible rfl) (by with_reducible rfl) ?_
  rintro e w2 ⟨rfl, rfl⟩
  have HA2 := HA1
  have HB2 := HB1
  go_wp2_with fail
  refine calls_at (q_size HA2.out) (by with_reducible rfl) (by with_reducible rfl) ?_
  rintro e w3 ⟨rfl, hb3⟩
  have HA3 : Hid (StAt W.heap.size w3 p nv mv k0) := HA2.out.below hb3
  have HB3 : Hid (Below W.heap.size W w3) := HB2.out.trans (hb3.mono HB2.out.size)
  clear hb3
  go_wp2_with fail
  refine calls_at (q_kn1 HA3.out) (by with_reducible rfl) (by with_reducible rfl) ?_
  rintro e w4 ⟨rfl, ha4, hs4⟩
  have HA4 : Hid (StAt W.heap.size w4 p nv mv k1) := ha4
  have HB4 : Hid (Below W.heap.size W w4) := HB3.out.trans hs4.below
  clear ha4 hs4
  go_wp2_with fail
  refine calls_at (q_kn2 HA4.out) (by with_reducible rfl) (by with_reducible rfl) ?_
  rintro e w5 ⟨rfl, ha5, hs5⟩
  have HA5 : Hid (StAt W.heap.size w5 p nv mv k2) := ha5
  have HB5 : Hid (Below W.heap.size W w5) := HB4.out.trans hs5.below
  clear ha5 hs5
  go_wp2_with fail
  refine calls_at (q_vals HA5.out (HTz.out _ HB5.out)) (by with_reducible rfl) (by with_reducible rfl) ?_
  rintro e w6 ⟨v6, rfl, ho6, hb6⟩
  have HA6 : Hid (StAt W.heap.size w6 p nv mv k2) := HA5.out.below hb6
  have HB6 : Hid (Below W.heap.size W w6) := HB5.out.trans (hb6.mono HB5.out.size)
  obtain ⟨W7, hW7⟩ : ∃ X, w6.alloc (.cells #[.int .i64 (-1), .int .i64 1, .int .i64 2] 3) = X := ⟨_, rfl⟩
  have hbx7 : Below w6.heap.size w6 W7 := by rw [← hW7]; exact (Below.refl _ _).alloc (Nat.le_refl _) _
  have HA7 : Hid (StAt W.heap.size W7 p nv mv k2) := HA6.out.below hbx7
  have HB7 : Hid (Below W.heap.size W W7) := HB6.out.trans (hbx7.mono HB6.out.size)
  obtain ⟨oa6, oc6, rfl⟩ : ∃ a c, v6 = .slice a 3 c := own_slice ho6
  have HI7 : Hid (Calls Tryd.prog 19 #[.slice oa6 3 oc6, .slice (some ⟨w6.heap.size, 0, none⟩) 3 3] W7 fun e w' => e = .returned (.bool true) ∧ Below W7.heap.size W7 w') := ints_same _ 0 _ _ [-1, 1, 2] W7 (own_below ho6 hbx7) (lit_row (L := [-1, 1, 2]) (by rw [← hW7]; exact heap_alloc_new w6 _) rfl (by decide)) (by decide)
  clear ho6 hb6 hbx7
  go_wp2_with fail
  refine calls_at HI7.out (by with_reducible rfl) (by with_reducible rfl) ?_
  rintro e w8 ⟨rfl, hb8⟩
  have HA8 : Hid (StAt W.heap.size w8 p nv mv k2) := HA7.out.below hb8
  have HB8 : Hid (Below W.heap.size W w8) := HB7.out.trans (hb8.mono HB7.out.size)
  clear hb8 hW7
  go_wp2_with fail
  refine calls_at (q_mark3 HA8.out) (by with_reducible rfl) (by with_reducible rfl) ?_
  rintro e w9 ⟨mv9, rfl, ha9, hs9⟩
  have HA9 : Hid (StAt W.heap.size w9 p nv mv9 k3) := ha9
  have HB9 : Hid (Below W.heap.size W w9) := HB8.out.trans hs9
  clear ha9 hs9
  go_wp2_with fail
  refine calls_at (q_kn4 HA9.out) (by with_reducible rfl) (by with_reducible rfl) ?_
  rintro e w10 ⟨rfl, ha10, hs10⟩
  have HA10 : Hid (StAt W.heap.size w10 p nv mv9 k4) := ha10
  have HB10 : Hid (Below W.heap.size W w10) := HB9.out.trans hs10.below
  clear ha10 hs10
  go_wp2_with fail
  refine calls_at (q_kn5 HA10.out) (by with_reducible rfl) (by with_reducible rfl) ?_
  rintro e w11 ⟨rfl, ha11, hs11⟩
  have HA11 : Hid (StAt W.heap.size w11 p nv mv9 k4) := ha11
  have HB11 : Hid (Below W.heap.size W w11) := HB10.out.trans hs11.below
  clear ha11 hs11
  go_wp2_with fail
  refine calls_at (q_hi HA11.out) (by with_reducible rfl) (by with_reducible rfl) ?_
  rintro e w12 ⟨rfl, hb12⟩
  have HA12 : Hid (StAt W.heap.size w12 p nv mv9 k4) := HA11.out.below hb12
  have HB12 : Hid (Below W.heap.size W w12) := HB11.out.trans (hb12.mono HB11.out.size)
  clear hb12
  go_wp2_with fail
  refine calls_at (q_lo HA12.out (HTz.out _ HB12.out)) (by with_reducible rfl) (by with_reducible rfl) ?_
  rintro e w13 ⟨rfl, hb13⟩
  have HA13 : Hid (StAt W.heap.size w13 p nv mv9 k4) := HA12.out.below hb13
  have HB13 : Hid (Below W.heap.size W w13) := HB12.out.trans (hb13.mono HB12.out.size)
  clear hb13
  go_wp2_with fail
  refine calls_at (q_has4 HA13.out) (by with_reducible rfl) (by with_reducible rfl) ?_
  rintro e w14 ⟨rfl, hb14⟩
  have HA14 : Hid (StAt W.heap.size w14 p nv mv9 k4) := HA13.out.below hb14
  have HB14 : Hid (Below W.heap.size W w14) := HB13.out.trans (hb14.mono HB13.out.size)
  clear hb14
  go_wp2_with fail
  refine calls_at (q_mark6 HA14.out) (by with_reducible rfl) (by with_reducible rfl) ?_
  rintro e w15 ⟨mv15, rfl, ha15, hs15⟩
  have HA15 : Hid (StAt W.heap.size w15 p nv mv15 k6) := ha15
  have HB15 : Hid (Below W.heap.size W w15) := HB14.out.trans hs15
  clear ha15 hs15
  go_wp2_with fail
  refine calls_at (q_back7 HA15.out) (by with_reducible rfl) (by with_reducible rfl) ?_
  rintro e w16 ⟨mv16, rfl, ha16, hs16⟩
  have HA16 : Hid (StAt W.heap.size w16 p nv mv16 k6) := ha16
  have HB16 : Hid (Below W.heap.size W w16) := HB15.out.trans hs16
  clear ha16 hs16
  go_wp2_with fail
  refine calls_at (q_back8 HA16.out) (by with_reducible rfl) (by with_reducible rfl) ?_
  rintro e w17 ⟨mv17, rfl, ha17, hs17⟩
  have HA17 : Hid (StAt W.heap.size w17 p nv mv17 k8) := ha17
  have HB17 : Hid (Below W.heap.size W w17) := HB16.out.trans hs17
  clear ha17 hs17
  go_wp2_with fail
  refine calls_at (q_has8 HA17.out) (by with_reducible rfl) (by with_reducible rfl) ?_
  rintro e w18 ⟨rfl, hb18⟩
  have HA18 : Hid (StAt W.heap.size w18 p nv mv17 k8) := HA17.out.below hb18
  have HB18 : Hid (Below W.heap.size W w18) := HB17.out.trans (hb18.mono HB17.out.size)
  clear hb18
  go_wp2_with fail
  refine calls_at (q_open HA18.out) (by with_reducible rfl) (by with_reducible rfl) ?_
  rintro e w19 ⟨v19, rfl, ho19, hb19⟩
  have HA19 : Hid (StAt W.heap.size w19 p nv mv17 k8) := HA18.out.below hb19
  have HB19 : Hid (Below W.heap.size W w19) := HB18.out.trans (hb19.mono HB18.out.size)
  obtain ⟨W20, hW20⟩ : ∃ X, w19.alloc (.cells #[.int .i64 0] 3) = X := ⟨_, rfl⟩
  have hbx20 : Below w19.heap.size w19 W20 := by rw [← hW20]; exact (Below.refl _ _).alloc (Nat.le_refl _) _
  have HA20 : Hid (StAt W.heap.size W20 p nv mv17 k8) := HA19.out.below hbx20
  have HB20 : Hid (Below W.heap.size W W20) := HB19.out.trans (hbx20.mono HB19.out.size)
  obtain ⟨oa19, oc19, rfl⟩ : ∃ a c, v19 = .slice a 1 c := own_slice ho19
  have HI20 : Hid (Calls Tryd.prog 19 #[.slice oa19 1 oc19, .slice (some ⟨w19.heap.size, 0, none⟩) 1 1] W20 fun e w' => e = .returned (.bool true) ∧ Below W20.heap.size W20 w') := ints_same _ 0 _ _ [0] W20 (own_below ho19 hbx20) (lit_row (L := [0]) (by rw [← hW20]; exact heap_alloc_new w19 _) rfl (by decide)) (by decide)
  clear ho19 hb19 hbx20
  go_wp2_with fail
  refine calls_at HI20.out (by with_reducible rfl) (by with_reducible rfl) ?_
  rintro e w21 ⟨rfl, hb21⟩
  have HA21 : Hid (StAt W.heap.size w21 p nv mv17 k8) := HA20.out.below hb21
  have HB21 : Hid (Below W.heap.size W w21) := HB20.out.trans (hb21.mono HB20.out.size)
  clear hb21 hW20
  go_wp2_with fail
  refine calls_at (copy_any _ p nv mv17 k8 w21 HA21.out) (by with_reducible rfl) (by with_reducible rfl) ?_
  rintro e w22 ⟨p2, nv2, mv2, rfl, hA2, hb22⟩
  have HA22 : Hid (StAt W.heap.size w22 p nv mv17 k8) := HA21.out.below hb22
  have HB22 : Hid (Below W.heap.size W w22) := HB21.out.trans (hb22.mono HB21.out.size)
  clear hA2 hb22
  go_wp2_with fail
  refine calls_at (same_any _ p _ p _ _ _ _ _ _ w22 HA22.out HA22.out rfl (HTz.out _ HB22.out)) (by with_reducible rfl) (by with_reducible rfl) ?_
  rintro e wz ⟨rfl, hbz⟩
  have HBz : Hid (Below W.heap.size W wz) := HB22.out.trans (hbz.mono HB22.out.size)
  clear hbz
  go_wp2_with fail
  go_ret
  exact ⟨rfl, HB.out.trans (HBz.out.mono HB.out.size)⟩
end Go.Proofs.YtakdboddbgihpaaDoor
