/-
  Put together: DmKnown, DmLight, DmOrdM, PpFine, DtM.
-/
import Derived.Test.YtchpapppkmnfnaaGreatDoorJ35
import Derived.Laws.BitsAllLaws
import Derived.Test.YtchpapppkmnfnaaGreatDoorJ31
import Derived.Test.YtchpapppkmnfnaaGreatDoorPpBitN
namespace Go.Proofs.YtchpapppkmnfnaaGreatDoor
open Go.RowKit

set_option maxRecDepth 10000 in
set_option maxHeartbeats 2000000 in
theorem known_any (w : World) (hT : Tz w) (hs : 0 < w.heap.size) : Calls Tryz.prog 4 #[] w fun e w' => e = .returned (.bool true) ∧ Below w.heap.size w w' := by
  obtain ⟨W, hW⟩ : ∃ W, w.alloc (.cells #[.string ⟨#[120]⟩, .int .i64 (-2), .int .i64 2] 34) = W := ⟨_, rfl⟩
  have hb0 : Below w.heap.size w W := by rw [← hW]; exact (Below.refl _ _).alloc (Nat.le_refl _) _
  have g0 : W.heap[w.heap.size]? = some (.cells #[.string ⟨#[120]⟩, .int .i64 (-2), .int .i64 2] 34 (0, 0)) := by rw [← hW]; exact heap_alloc_new w _
  have hsW : 0 < W.heap.size := Nat.lt_of_lt_of_le hs hb0.size
  have HB : Hid (Below w.heap.size w W) := hb0
  have HTz : Hid (∀ w', Below W.heap.size W w' → Tz w') := fun w' hb => (hT.below hb0 hs).below hb hsW
  have HNew : Hid (Calls Tryz.prog 7 #[.agg #[.slice (some ⟨w.heap.size, 0, none⟩) 1 1, .slice none 0 0, .bool false, .slice none 0 0]] W (fun e w' => ∃ p nv mv, e = .returned (.pointer (some ⟨p, 0, none⟩)) ∧ StAt W.heap.size w' p nv mv k0 ∧ Below W.heap.size W w')) := (new_any kM _ _ _ W (kM_at g0) hsW).mono fun e w' h => q_new kn0 h
  clear hb0 g0 hT
  go_enter Tryz.func4, Tryz.ntmps4
  go_wp2_with fail
  refine calls_at HNew.out (by with_reducible rfl) (by with_reducible rfl) ?_
  rintro e w1 ⟨p, nv, mv, rfl, hA1, hb1⟩
  have HA1 : Hid (StAt W.heap.size w1 p nv mv k0) := hA1
  have HB1 : Hid (Below W.heap.size W w1) := hb1
  clear hA1 hb1 hW
  go_wp2_with fail
  refine calls_at (q_vars HA1.out) (by with_reducible rfl) (by with_reducible rfl) ?_
  rintro e w2 ⟨rfl, rfl⟩
  have HA2 := HA1
  have HB2 := HB1
  go_wp2_with fail
  refine calls_at (q_size HA2.out) (by with_reducible rfl) (by with_reducible rfl) ?_
  rintro e w3 ⟨rfl, hb3⟩
  have HA3 : Hid (StAt W.heap.size w3 p nv mv k0) := HA2.out.below hb3
  have HB3 : Hid (Below W.heap.size W w3) := HB2.out.trans (hb3.mono HB2.out.size)
  clear hb3
  go_wp2_with fail
  refine calls_at (q_kn1 HA3.out) (by with_reducible rfl) (by with_reducible rfl) ?_
  rintro e w4 ⟨rfl, ha4, hs4⟩
  have HA4 : Hid (StAt W.heap.size w4 p nv mv k1) := ha4
  have HB4 : Hid (Below W.heap.size W w4) := HB3.out.trans hs4.below
  clear ha4 hs4
  go_wp2_with fail
  refine calls_at (q_kn2 HA4.out) (by with_reducible rfl) (by with_reducible rfl) ?_
  rintro e w5 ⟨rfl, ha5, hs5⟩
  have HA5 : Hid (StAt W.heap.size w5 p nv mv k2) := ha5
  have HB5 : Hid (Below W.heap.size W w5) := HB4.out.trans hs5.below
  clear ha5 hs5
  go_wp2_with fail
  refine calls_at (q_vals HA5.out (HTz.out _ HB5.out)) (by with_reducible rfl) (by with_reducible rfl) ?_
  rintro e w6 ⟨v6, rfl, ho6, hb6⟩
  have HA6 : Hid (StAt W.heap.size w6 p nv mv k2) := HA5.out.below hb6
  have HB6 : Hid (Below W.heap.size W w6) := HB5.out.trans (hb6.mono HB5.out.size)
  obtain ⟨W7, hW7⟩ : ∃ X, w6.alloc (.cells #[.int .i64 (-1), .int .i64 1, .int .i64 2] 3) = X := ⟨_, rfl⟩
  have hbx7 : Below w6.heap.size w6 W7 := by rw [← hW7]; exact (Below.refl _ _).alloc (Nat.le_refl _) _
  have HA7 : Hid (StAt W.heap.size W7 p nv mv k2) := HA6.out.below hbx7
  have HB7 : Hid (Below W.heap.size W W7) := HB6.out.trans (hbx7.mono HB6.out.size)
  obtain ⟨oa6, oc6, rfl⟩ : ∃ a c, v6 = .slice a 3 c := own_slice ho6
  have HI7 : Hid (Calls Tryz.prog 12 #[.slice oa6 3 oc6, .slice (some ⟨w6.heap.size, 0, none⟩) 3 3] W7 fun e w' => e = .returned (.bool true) ∧ Below W7.heap.size W7 w') := ints_same _ 0 _ _ [-1, 1, 2] W7 (own_below ho6 hbx7) (lit_row (L := [-1, 1, 2]) (by rw [← hW7]; exact heap_alloc_new w6 _) rfl (by decide)) (by decide)
  clear ho6 hb6 hbx7
  go_wp2_with fail
  refine calls_at HI7.out (by with_reducible rfl) (by with_reducible rfl) ?_
  rintro e w8 ⟨rfl, hb8⟩
  have HA8 : Hid (StAt W.heap.size w8 p nv mv k2) := HA7.out.below hb8
  have HB8 : Hid (Below W.heap.size W w8) := HB7.out.trans (hb8.mono HB7.out.size)
  clear hb8 hW7
  go_wp2_with fail
  refine calls_at (q_mark3 HA8.out) (by with_reducible rfl) (by with_reducible rfl) ?_
  rintro e w9 ⟨mv9, rfl, ha9, hs9⟩
  have HA9 : Hid (StAt W.heap.size w9 p nv mv9 k3) := ha9
  have HB9 : Hid (Below W.heap.size W w9) := HB8.out.trans hs9
  clear ha9 hs9
  go_wp2_with fail
  refine calls_at (q_kn4 HA9.out) (by with_reducible rfl) (by with_reducible rfl) ?_
  rintro e w10 ⟨rfl, ha10, hs10⟩
  have HA10 : Hid (StAt W.heap.size w10 p nv mv9 k4) := ha10
  have HB10 : Hid (Below W.heap.size W w10) := HB9.out.trans hs10.below
  clear ha10 hs10
  go_wp2_with fail
  refine calls_at (q_kn5 HA10.out) (by with_reducible rfl) (by with_reducible rfl) ?_
  rintro e w11 ⟨rfl, ha11, hs11⟩
  have HA11 : Hid (StAt W.heap.size w11 p nv mv9 k4) := ha11
  have HB11 : Hid (Below W.heap.size W w11) := HB10.out.trans hs11.below
  clear ha11 hs11
  go_wp2_with fail
  refine calls_at (q_hi HA11.out) (by with_reducible rfl) (by with_reducible rfl) ?_
  rintro e w12 ⟨rfl, hb12⟩
  have HA12 : Hid (StAt W.heap.size w12 p nv mv9 k4) := HA11.out.below hb12
  have HB12 : Hid (Below W.heap.size W w12) := HB11.out.trans (hb12.mono HB11.out.size)
  clear hb12
  go_wp2_with fail
  refine calls_at (q_lo HA12.out (HTz.out _ HB12.out)) (by with_reducible rfl) (by with_reducible rfl) ?_
  rintro e w13 ⟨rfl, hb13⟩
  have HA13 : Hid (StAt W.heap.size w13 p nv mv9 k4) := HA12.out.below hb13
  have HB13 : Hid (Below W.heap.size W w13) := HB12.out.trans (hb13.mono HB12.out.size)
  clear hb13
  go_wp2_with fail
  refine calls_at (q_has4 HA13.out) (by with_reducible rfl) (by with_reducible rfl) ?_
  rintro e w14 ⟨rfl, hb14⟩
  have HA14 : Hid (StAt W.heap.size w14 p nv mv9 k4) := HA13.out.below hb14
  have HB14 : Hid (Below W.heap.size W w14) := HB13.out.trans (hb14.mono HB13.out.size)
  clear hb14
  go_wp2_with fail
  refine calls_at (q_mark6 HA14.out) (by with_reducible rfl) (by with_reducible rfl) ?_
  rintro e w15 ⟨mv15, rfl, ha15, hs15⟩
  have HA15 : Hid (StAt W.heap.size w15 p nv mv15 k6) := ha15
  have HB15 : Hid (Below W.heap.size W w15) := HB14.out.trans hs15
  clear ha15 hs15
  go_wp2_with fail
  refine calls_at (q_back7 HA15.out) (by with_reducible rfl) (by with_reducible rfl) ?_
  rintro e w16 ⟨mv16, rfl, ha16, hs16⟩
  have HA16 : Hid (StAt W.heap.size w16 p nv mv16 k6) := ha16
  have HB16 : Hid (Below W.heap.size W w16) := HB15.out.trans hs16
  clear ha16 hs16
  go_wp2_with fail
  refine calls_at (q_back8 HA16.out) (by with_reducible rfl) (by with_reducible rfl) ?_
  rintro e w17 ⟨mv17, rfl, ha17, hs17⟩
  have HA17 : Hid (StAt W.heap.size w17 p nv mv17 k8) := ha17
  have HB17 : Hid (Below W.heap.size W w17) := HB16.out.trans hs17
  clear ha17 hs17
  go_wp2_with fail
  refine calls_at (q_has8 HA17.out) (by with_reducible rfl) (by with_reducible rfl) ?_
  rintro e w18 ⟨rfl, hb18⟩
  have HA18 : Hid (StAt W.heap.size w18 p nv mv17 k8) := HA17.out.below hb18
  have HB18 : Hid (Below W.heap.size W w18) := HB17.out.trans (hb18.mono HB17.out.size)
  clear hb18
  go_wp2_with fail
  refine calls_at (q_open HA18.out) (by with_reducible rfl) (by with_reducible rfl) ?_
  rintro e w19 ⟨v19, rfl, ho19, hb19⟩
  have HA19 : Hid (StAt W.heap.size w19 p nv mv17 k8) := HA18.out.below hb19
  have HB19 : Hid (Below W.heap.size W w19) := HB18.out.trans (hb19.mono HB18.out.size)
  obtain ⟨W20, hW20⟩ : ∃ X, w19.alloc (.cells #[.int .i64 0] 3) = X := ⟨_, rfl⟩
  have hbx20 : Below w19.heap.size w19 W20 := by rw [← hW20]; exact (Below.refl _ _).alloc (Nat.le_refl _) _
  have HA20 : Hid (StAt W.heap.size W20 p nv mv17 k8) := HA19.out.below hbx20
  have HB20 : Hid (Below W.heap.size W W20) := HB19.out.trans (hbx20.mono HB19.out.size)
  obtain ⟨oa19, oc19, rfl⟩ : ∃ a c, v19 = .slice a 1 c := own_slice ho19
  have HI20 : Hid (Calls Tryz.prog 12 #[.slice oa19 1 oc19, .slice (some ⟨w19.heap.size, 0, none⟩) 1 1] W20 fun e w' => e = .returned (.bool true) ∧ Below W20.heap.size W20 w') := ints_same _ 0 _ _ [0] W20 (own_below ho19 hbx20) (lit_row (L := [0]) (by rw [← hW20]; exact heap_alloc_new w19 _) rfl (by decide)) (by decide)
  clear ho19 hb19 hbx20
  go_wp2_with fail
  refine calls_at HI20.out (by with_reducible rfl) (by with_reducible rfl) ?_
  rintro e w21 ⟨rfl, hb21⟩
  have HA21 : Hid (StAt W.heap.size w21 p nv mv17 k8) := HA20.out.below hb21
  have HB21 : Hid (Below W.heap.size W w21) := HB20.out.trans (hb21.mono HB20.out.size)
  clear hb21 hW20
  go_wp2_with fail
  refine calls_at (copy_any _ p nv mv17 k8 w21 HA21.out) (by with_reducible rfl) (by with_reducible rfl) ?_
  rintro e w22 ⟨p2, nv2, mv2, rfl, hA2, hb22⟩
  have HA22 : Hid (StAt W.heap.size w22 p nv mv17 k8) := HA21.out.below hb22
  have HB22 : Hid (Below W.heap.size W w22) := HB21.out.trans (hb22.mono HB21.out.size)
  clear hA2 hb22
  go_wp2_with fail
  refine calls_at (same_any _ p _ p _ _ _ _ _ _ w22 HA22.out HA22.out rfl (HTz.out _ HB22.out)) (by with_reducible rfl) (by with_reducible rfl) ?_
  rintro e wz ⟨rfl, hbz⟩
  have HBz : Hid (Below W.heap.size W wz) := HB22.out.trans (hbz.mono HB22.out.size)
  clear hbz
  go_wp2_with fail
  go_ret
  exact ⟨rfl, HB.out.trans (HBz.out.mono HB.out.size)⟩
end Go.Proofs.YtchpapppkmnfnaaGreatDoor

namespace Go.Proofs.YtchpapppkmnfnaaGreatDoor
open Go.RowKit

set_option maxRecDepth 10000 in
set_option maxHeartbeats 1000000 in
theorem light_any (m : Md.Mo) (vv vc vg : Value) (w : World) (h : MoAt w m vv vc vg) : Calls Tryz.prog 29 #[moVal m vv vc vg] w fun e w' => (∃ b, e = .returned (.bool b)) ∧ Below w.heap.size w w' := by
  obtain ⟨va, vp, rfl, hvm, _, hvo⟩ := id h.v
  obtain ⟨ca, cp, rfl, hcm, hco⟩ := id h.c
  have HVC : Hid (∀ w', Below w.heap.size w w' → ∀ j (hj : j < m.vars.length), ∃ b off, va = some ⟨b, off, none⟩ ∧ w'.cell? ⟨b, off + j * 3, none⟩ = some (.string m.vars[j].name)) := fun w' hb j hj => by
    obtain ⟨b, off, e1, e2, e3⟩ := hvo (by omega)
    exact ⟨b, off, e1, (hb.cell (p := ⟨b, off + j * 3, none⟩) e2).trans (e3 j hj).1⟩
  have HCC : Hid (∀ w', Below w.heap.size w w' → ∀ j (hj : j < m.cons.length), ∃ b off ta tl tc xa xl xc ba bl bc, ca = some ⟨b, off, none⟩ ∧ w'.cell? ⟨b, off + j * 10 + 2, none⟩ = some (.slice ta tl tc) ∧ w'.cell? ⟨b, off + j * 10 + 7, none⟩ = some (.slice xa xl xc) ∧ w'.cell? ⟨b, off + j * 10 + 8, none⟩ = some (.slice ba bl bc)) := fun w' hb j hj => by
    obtain ⟨b, off, e1, e2, e3⟩ := hco (by omega)
    obtain ⟨vt, vx, vb, vr, f1, f2⟩ := e3 j hj
    obtain ⟨ta, tc, rfl, _⟩ := f1.t.form
    obtain ⟨xa, xc, rfl, _⟩ := f1.x.form
    obtain ⟨ba, bc, rfl, _⟩ := f1.b.form
    obtain ⟨_, _, q2, _, _, _, _, q7, q8, _⟩ := f2
    exact ⟨b, off, _, _, _, _, _, _, _, _, _, e1, (hb.cell (p := ⟨b, off + j * 10 + 2, none⟩) e2).trans q2, (hb.cell (p := ⟨b, off + j * 10 + 7, none⟩) e2).trans q7, (hb.cell (p := ⟨b, off + j * 10 + 8, none⟩) e2).trans q8⟩
  obtain ⟨ga, gp, rfl, hgm⟩ := h.g.form
  obtain ⟨W, hW⟩ : ∃ W, w.alloc (.cells #[.slice va m.vars.length vp, .slice ca m.cons.length cp, .bool m.has, .slice ga m.goal.length gp] 26) = W := ⟨_, rfl⟩
  have hb0 : Below w.heap.size w W := by rw [← hW]; exact (Below.refl _ _).alloc (Nat.le_refl _) _
  have g0 : W.heap[w.heap.size]? = some (.cells #[.slice va m.vars.length vp, .slice ca m.cons.length cp, .bool m.has, .slice ga m.goal.length gp] 26 (0, 0)) := by rw [← hW]; exact heap_alloc_new w _
  have hlt := (Array.getElem?_eq_some_iff.1 g0).1
  have HB : Hid (Below w.heap.size w W) := hb0
  have HM : Hid (∀ w', Below W.heap.size W w' → w'.cell? ⟨w.heap.size, 0, none⟩ = some (.slice va m.vars.length vp) ∧ w'.cell? ⟨w.heap.size, 1, none⟩ = some (.slice ca m.cons.length cp)) := fun w' hb => ⟨(hb.cell (p := ⟨w.heap.size, 0, none⟩) hlt).trans (cell_of g0 0), (hb.cell (p := ⟨w.heap.size, 1, none⟩) hlt).trans (cell_of g0 1)⟩
  unfold maxLen at hvm hcm
  clear hb0 g0 hlt h hvo hco
  unfold moVal
  go_enter Tryz.func29, Tryz.ntmps29
  go_wp2_with fail
  go_loopw [3, 4] (fun nv iv wr => ∃ (k : Nat) (n : Int), nv = .int .i64 n ∧ iv = .int .i64 (k : Int) ∧ k ≤ m.cons.length ∧ Hid (Below W.heap.size W wr)) (fun _ iv _ => m.cons.length - (intOf iv).toNat)
  case atStart => exact ⟨0, 0, rfl, rfl, Nat.zero_le _, Below.refl _ _⟩
  case round =>
    obtain ⟨k, n, rfl, rfl, hk, HBr⟩ := hrel
    obtain ⟨d0, d1⟩ := HM.out wr HBr.out
    by_cases hgo : k < m.cons.length ∧ n ≤ 65536
    · obtain ⟨hkn, hn⟩ := hgo
      have hkI : (k : Int) < (m.cons.length : Int) := by omega
      obtain ⟨b, off, ta, tl, tc, xa, xl, xc, ba, bl, bc, rfl, x2, x7, x8⟩ := HCC.out wr (HB.out.trans (HBr.out.mono HB.out.size)) k hkn
      go_wp2_with fail
      go_region
      have HBd : Hid (Below W.heap.size W wr.drew) := HBr.out.drew
      go_wp2_with fail
      go_roundw
      case rel => exact ⟨k + 1, _, rfl, by go_num, hkn, HBd⟩
      case measure => simp [intOf]; omega
    · have hout : ((k : Int) < (m.cons.length : Int) ∧ 65536 < n) ∨ (m.cons.length : Int) ≤ (k : Int) := by omega
      rcases hout with ⟨ho1, ho2⟩ | ho1
      all_goals
        go_wp2_with fail
        go_loopw [3, 5] (fun nv iv wr => ∃ (k : Nat) (n : Int), nv = .int .i64 n ∧ iv = .int .i64 (k : Int) ∧ k ≤ m.vars.length ∧ Hid (Below W.heap.size W wr)) (fun _ iv _ => m.vars.length - (intOf iv).toNat)
        case atStart => exact ⟨0, n, rfl, rfl, Nat.zero_le _, HBr⟩
        case round =>
          obtain ⟨k2, n2, rfl, rfl, hk2, HB2⟩ := hrel
          obtain ⟨f0, f1⟩ := HM.out wr HB2.out
          have hHB2 : Hid (Below w.heap.size w wr) := HB.out.trans (HB2.out.mono HB.out.size)
          by_cases hgo2 : k2 < m.vars.length ∧ n2 ≤ 65536
          · obtain ⟨hkn2, hn2⟩ := hgo2
            have hkI2 : (k2 : Int) < (m.vars.length : Int) := by omega
            obtain ⟨b, off, rfl, y0⟩ := HVC.out wr hHB2.out k2 hkn2
            go_wp2_with fail
            go_roundw
            case rel => exact ⟨k2 + 1, _, rfl, by go_num, hkn2, HB2⟩
            case measure => simp [intOf]; omega
          · have hout2 : ((k2 : Int) < (m.vars.length : Int) ∧ 65536 < n2) ∨ (m.vars.length : Int) ≤ (k2 : Int) := by omega
            rcases hout2 with ⟨hp1, hp2⟩ | hp1
            all_goals
              go_wp2_with fail
              go_ret
              exact ⟨⟨_, rfl⟩, hHB2.out⟩

/-- What small leaves. -/
def SmOut (m : Md.Mo) (ln : Nat) (w : World) (e : Ending) (w' : World) : Prop := (∃ b, e = .returned (.bool b) ∧ (b = true → m.vars.length ≤ 300 ∧ m.cons.length ≤ 300 ∧ m.goal.length ≤ 300 ∧ ln ≤ 300)) ∧ Below w.heap.size w w'
set_option maxRecDepth 10000 in
set_option maxHeartbeats 1000000 in
theorem small_any (m : Md.Mo) (vv vc vg : Value) (la : Option Addr) (ln lc : Nat) (w : World) (h : MoAt w m vv vc vg) : Calls Tryz.prog 5 #[moVal m vv vc vg, .slice la ln lc] w (SmOut m ln w) := by
  obtain ⟨va, vp, rfl, hvm, _, _⟩ := id h.v
  obtain ⟨ca, cp, rfl, hcm, _⟩ := id h.c
  obtain ⟨ga, gp, rfl, hgm⟩ := h.g.form
  obtain ⟨W, hW⟩ : ∃ W, w.alloc (.cells #[.slice va m.vars.length vp, .slice ca m.cons.length cp, .bool m.has, .slice ga m.goal.length gp] 26) = W := ⟨_, rfl⟩
  have hb0 : Below w.heap.size w W := by rw [← hW]; exact (Below.refl _ _).alloc (Nat.le_refl _) _
  have g0 : W.heap[w.heap.size]? = some (.cells #[.slice va m.vars.length vp, .slice ca m.cons.length cp, .bool m.has, .slice ga m.goal.length gp] 26 (0, 0)) := by rw [← hW]; exact heap_alloc_new w _
  have c0 : W.cell? ⟨w.heap.size, 0, none⟩ = some (.slice va m.vars.length vp) := cell_of g0 0
  have c1 : W.cell? ⟨w.heap.size, 1, none⟩ = some (.slice ca m.cons.length cp) := cell_of g0 1
  have c2 : W.cell? ⟨w.heap.size, 2, none⟩ = some (.bool m.has) := cell_of g0 2
  have c3 : W.cell? ⟨w.heap.size, 3, none⟩ = some (.slice ga m.goal.length gp) := cell_of g0 3
  have HB : Hid (Below w.heap.size w W) := hb0
  have HL : Hid (Calls Tryz.prog 29 #[.agg #[.slice va m.vars.length vp, .slice ca m.cons.length cp, .bool m.has, .slice ga m.goal.length gp]] W fun e w' => (∃ b, e = .returned (.bool b)) ∧ Below W.heap.size W w') := light_any m _ _ _ W (h.below hb0)
  clear h hb0 g0
  unfold moVal
  by_cases h1 : m.vars.length ≤ 300
  · have i1 : (m.vars.length : Int) ≤ 300 := by omega
    by_cases h2 : m.cons.length ≤ 300
    · have i2 : (m.cons.length : Int) ≤ 300 := by omega
      by_cases h3 : m.goal.length ≤ 300
      · have i3 : (m.goal.length : Int) ≤ 300 := by omega
        go_enter Tryz.func5, Tryz.ntmps5
        go_wp2_with fail
        refine calls_at HL.out (by with_reducible rfl) (by with_reducible rfl) ?_
        rintro e w1 ⟨⟨b, rfl⟩, hb1⟩
        have HB1 : Hid (Below w.heap.size w w1) := HB.out.trans (hb1.mono HB.out.size)
        clear hb1
        cases b with
        | false =>
          go_wp2_with fail
          go_ret
          exact ⟨⟨false, rfl, fun h => by cases h⟩, HB1.out⟩
        | true =>
          go_wp2_with fail
          go_ret
          exact ⟨⟨_, rfl, fun h => ⟨h1, h2, h3, by have := of_decide_eq_true h; omega⟩⟩, HB1.out⟩
      · have i3 : 300 < (m.goal.length : Int) := by omega
        go_enter Tryz.func5, Tryz.ntmps5
        go_wp2_with fail
        go_ret
        exact ⟨⟨false, rfl, fun h => by cases h⟩, HB.out⟩
    · have i2 : 300 < (m.cons.length : Int) := by omega
      go_enter Tryz.func5, Tryz.ntmps5
      go_wp2_with fail
      go_ret
      exact ⟨⟨false, rfl, fun h => by cases h⟩, HB.out⟩
  · have i1 : 300 < (m.vars.length : Int) := by omega
    go_enter Tryz.func5, Tryz.ntmps5
    go_wp2_with fail
    go_ret
    exact ⟨⟨false, rfl, fun h => by cases h⟩, HB.out⟩
end Go.Proofs.YtchpapppkmnfnaaGreatDoor

namespace Go.Proofs.YtchpapppkmnfnaaGreatDoor
open Go.RowKit

/-- A word's bit. -/
def wb (x : Int) (j : Nat) : Bool := x.toNat.testBit j
theorem wb_ext {x y : Int} (hx : IsW x) (hy : IsW y) (h : ∀ j, j < 32 → wb x j = wb y j) : x = y := by
  have e : x.toNat = y.toNat := Nat.eq_of_testBit_eq fun j => by
    rcases Nat.lt_or_ge j 32 with hj | hj
    · exact h j hj
    · have p : 4294967296 ≤ 2 ^ j := by
        have := Nat.pow_le_pow_right (n := 2) (by decide) hj
        simpa using this
      rw [Nat.testBit_lt_two_pow (by have := hx.2; have := hx.1; omega), Nat.testBit_lt_two_pow (by have := hy.2; have := hy.1; omega)]
  have := hx.1
  have := hy.1
  omega
theorem wb_and {x y : Int} (hx : IsW x) (hy : IsW y) (j : Nat) : wb (bits .and .u32 x y) j = (wb x j && wb y j) := by
  unfold wb
  rw [u32_and x y hx.1 hx.2 hy.1 hy.2, Int.toNat_natCast, Nat.testBit_and]
theorem wb_less {x y : Int} (hx : IsW x) (hy : IsW y) (j : Nat) (hj : j < 32) : wb (bits .andNot .u32 x y) j = (wb x j && !wb y j) := by
  unfold wb
  rw [u32_andNot x y hx.1 hx.2 hy.1 hy.2, Int.toNat_natCast, Nat.testBit_and]
  congr 1
  have h := Nat.testBit_two_pow_sub_succ (n := 32) (x := y.toNat) (by have := hy.2; have := hy.1; omega) j
  rw [show 4294967295 - y.toNat = 2 ^ 32 - (y.toNat + 1) by omega, h]
  simp [hj]
theorem wb_from (k i : Int) (j : Nat) (hj : j < 32) : wb (fWd k i) j = decide (k - i * 32 ≤ (j : Int)) := by
  unfold wb fWd
  obtain ⟨s, hs, hs2⟩ : ∃ s : Nat, (fCl (k - i * 32)).toNat = s ∧ (s ≤ j ↔ k - i * 32 ≤ (j : Int)) := by
    refine ⟨_, rfl, ?_⟩
    unfold fCl
    split
    · split at * <;> omega
    · split at * <;> omega
  rw [hs]
  have e : ((4294967295 : Int) * 2 ^ s % 4294967296).toNat = (4294967295 * 2 ^ s) % 2 ^ 32 := by
    have : ((4294967295 : Int) * 2 ^ s % 4294967296) = (((4294967295 * 2 ^ s) % 2 ^ 32 : Nat) : Int) := by
      rw [Int.natCast_emod, Int.natCast_mul, Int.natCast_pow]
      rfl
    rw [this, Int.toNat_natCast]
  rw [e, Nat.testBit_mod_two_pow, Nat.testBit_mul_two_pow]
  have h1 : (4294967295 : Nat).testBit (j - s) = true := by
    have := Nat.testBit_two_pow_sub_one 32 (j - s)
    rw [show (4294967295 : Nat) = 2 ^ 32 - 1 by decide, this]
    simp
    omega
  rw [h1]
  simp [hj, hs2]
/-- A place of a set. -/
def bt (a b : Int) (k : Nat) : Bool := if k < 32 then wb a k else wb b (k - 32)
theorem wb_at {x : Int} (hx : IsW x) (j : Nat) : (bits .and .u32 (x / 2 ^ j) 1 == 1) = wb x j := by
  have hp : (0 : Int) < 2 ^ j := Int.pow_pos (by decide)
  have h1 : 0 ≤ x / 2 ^ j := Int.ediv_nonneg hx.1 (Int.le_of_lt hp)
  have h2 : x / 2 ^ j < 4294967296 := Int.lt_of_le_of_lt (Int.ediv_le_self _ hx.1) hx.2
  rw [u32_and _ 1 h1 h2 (by decide) (by decide)]
  unfold wb
  obtain ⟨n, rfl⟩ : ∃ n : Nat, x = (n : Int) := ⟨x.toNat, by have := hx.1; omega⟩
  have e : ((n : Int) / 2 ^ j).toNat = n / 2 ^ j := by
    have : ((n : Int) / 2 ^ j) = ((n / 2 ^ j : Nat) : Int) := by rw [Int.natCast_ediv, Int.natCast_pow]; rfl
    rw [this, Int.toNat_natCast]
  rw [e, Int.toNat_natCast, Nat.testBit_eq_decide_div_mod_eq, show (1 : Int).toNat = 1 from rfl, Nat.and_one_is_mod]
  have hm : n / 2 ^ j % 2 = 0 ∨ n / 2 ^ j % 2 = 1 := by omega
  rcases hm with h | h <;> simp [h]
theorem btAt_bt {a b : Int} (ha : IsW a) (hb : IsW b) (k : Nat) (hk : k < 64) : btAt a b (k : Int) = bt a b k := by
  unfold btAt bt
  have h0 : (0 : Int) ≤ (k : Int) := by omega
  have h1 : (k : Int) < 64 := by omega
  simp only [h0, h1, decide_true, Bool.true_and]
  by_cases h : k < 32
  · have e : ((k : Int) % 32).toNat = k := by omega
    rw [if_pos (by omega), if_pos h, e]
    exact wb_at ha k
  · have e : ((k : Int) % 32).toNat = k - 32 := by omega
    rw [if_neg (by omega), if_neg h, e]
    exact wb_at hb (k - 32)
theorem bt_ext {a b c d : Int} (ha : IsW a) (hb : IsW b) (hc : IsW c) (hd : IsW d) (h : ∀ k, k < 64 → bt a b k = bt c d k) : a = c ∧ b = d := by
  refine ⟨wb_ext ha hc fun j hj => ?_, wb_ext hb hd fun j hj => ?_⟩
  · have := h j (by omega)
    unfold bt at this
    rwa [if_pos hj, if_pos hj] at this
  · have := h (j + 32) (by omega)
    unfold bt at this
    rw [if_neg (by omega), if_neg (by omega), show j + 32 - 32 = j by omega] at this
    exact this
theorem bt_from (q : Int) (k : Nat) (hk : k < 64) : bt (fWd q 0) (fWd q 1) k = decide (q ≤ (k : Int)) := by
  unfold bt
  split
  · rename_i h
    rw [wb_from q 0 k h]
    congr 1
    exact propext (by omega)
  · rename_i h
    rw [wb_from q 1 (k - 32) (by omega)]
    congr 1
    exact propext (by omega)
theorem bt_and {a b c d : Int} (ha : IsW a) (hb : IsW b) (hc : IsW c) (hd : IsW d) (k : Nat) : bt (bits .and .u32 a c) (bits .and .u32 b d) k = (bt a b k && bt c d k) := by
  unfold bt
  split
  · exact wb_and ha hc k
  · exact wb_and hb hd (k - 32)
theorem bt_less {a b c d : Int} (ha : IsW a) (hb : IsW b) (hc : IsW c) (hd : IsW d) (k : Nat) (hk : k < 64) : bt (bits .andNot .u32 a c) (bits .andNot .u32 b d) k = (bt a b k && !bt c d k) := by
  unfold bt
  split
  · rename_i h
    exact wb_less ha hc k h
  · exact wb_less hb hd (k - 32) (by omega)
/-- Does a cut take a value? -/
def takesB (kind cv v : Int) : Bool := (kind == 1 && decide (v < cv)) || (kind == 2 && decide (cv < v)) || (kind == 3 && v == cv)
theorem bt_cut {f a b : Int} (ha : IsW a) (hb : IsW b) (kind cv : Int) (k : Nat) (hk : k < 64) : bt (lWd (dPlc f cv) kind a 0) (lWd (dPlc f cv) kind b 1) k = (bt a b k && !takesB kind cv (f + (k : Int))) := by
  have w0 := isW_fWd
  unfold lWd takesB
  by_cases h1 : kind = 1
  · subst h1
    rw [if_pos rfl, if_pos rfl, bt_and ha hb (w0 _ _) (w0 _ _), bt_from _ k hk]
    congr 1
    have : (dPlc f cv ≤ (k : Int)) ↔ ¬ (f + (k : Int) < cv) := by unfold dPlc; omega
    by_cases h : dPlc f cv ≤ (k : Int)
    · simp [h, this.1 h]
    · have h2 : f + (k : Int) < cv := by
        rcases Int.lt_or_le (f + (k : Int)) cv with h3 | h3
        · exact h3
        · exact absurd (this.2 (by omega)) h
      simp [h, h2]
  by_cases h2 : kind = 2
  · subst h2
    rw [if_neg (by decide), if_pos rfl, if_neg (by decide), if_pos rfl, bt_less ha hb (w0 _ _) (w0 _ _) k hk, bt_from _ k hk]
    congr 1
    have : (dPlc f cv + 1 ≤ (k : Int)) ↔ (cv < f + (k : Int)) := by unfold dPlc; omega
    by_cases h : dPlc f cv + 1 ≤ (k : Int)
    · simp [h, this.1 h]
    · have h3 : ¬ cv < f + (k : Int) := fun e => h (this.2 e)
      simp [h, h3]
  by_cases h3 : kind = 3
  · subst h3
    rw [if_neg (by decide), if_neg (by decide), if_pos rfl, if_neg (by decide), if_neg (by decide), if_pos rfl]
    unfold oWd
    rw [bt_less ha hb (isW_bits _ _ _) (isW_bits _ _ _) k hk, bt_less (w0 _ _) (w0 _ _) (w0 _ _) (w0 _ _) k hk, bt_from _ k hk, bt_from _ k hk]
    congr 1
    have : (dPlc f cv ≤ (k : Int) ∧ ¬ dPlc f cv + 1 ≤ (k : Int)) ↔ f + (k : Int) = cv := by unfold dPlc; omega
    by_cases h : f + (k : Int) = cv
    · have h4 := this.2 h
      simp [h, h4.1, h4.2]
    · by_cases h5 : dPlc f cv ≤ (k : Int)
      · have h6 : dPlc f cv + 1 ≤ (k : Int) := by
          rcases Int.lt_or_le (k : Int) (dPlc f cv + 1) with h7 | h7
          · exact absurd (this.1 ⟨h5, by omega⟩) h
          · exact h7
        simp [h, h5, h6]
      · simp [h, h5]
  · rw [if_neg h1, if_neg h2, if_neg h3, if_neg h1, if_neg h2, if_neg h3]
    simp [h1, h2, h3]
theorem bt_whole (lo hi : Int) (k : Nat) (hk : k < 64) : bt (wWd lo hi 0) (wWd lo hi 1) k = decide ((k : Int) ≤ hi - lo) := by
  have w0 := isW_fWd
  unfold wWd
  rw [bt_less (w0 _ _) (w0 _ _) (w0 _ _) (w0 _ _) k hk, bt_from _ k hk, bt_from _ k hk]
  have h0 : (0 : Int) ≤ (k : Int) := by omega
  by_cases h : (k : Int) ≤ hi - lo
  · have : ¬ hi - lo + 1 ≤ (k : Int) := by omega
    simp [h, h0, this]
  · have : hi - lo + 1 ≤ (k : Int) := by omega
    simp [h, h0, this]
theorem cut_len (s : St) (k x v : Int) : (s.cut k x v).now.length = s.now.length ∧ (s.cut k x v).noted = s.noted ∧ (s.cut k x v).marks = s.marks := by
  unfold St.cut
  split
  · exact ⟨rfl, rfl, rfl⟩
  · split
    · exact ⟨List.length_set, rfl, rfl⟩
    · exact ⟨rfl, rfl, rfl⟩
end Go.Proofs.YtchpapppkmnfnaaGreatDoor

namespace Go.Proofs.YtchpapppkmnfnaaGreatDoor
open Go.RowKit

theorem w_nat {a : Int} (h : IsW a) : a.toNat < 2 ^ 32 ∧ (a.toNat : Int) = a := by
  have := h.1
  have := h.2
  omega
theorem w_zero {a : Int} (h : IsW a) (h0 : a ≠ 0) : ∃ j : Nat, j < 32 ∧ wb a j = true := by
  obtain ⟨h1, h2⟩ := w_nat h
  obtain ⟨i, hi⟩ := Nat.exists_testBit_of_ne_zero (x := a.toNat) (by omega)
  refine ⟨i, ?_, hi⟩
  rcases Nat.lt_or_ge i 32 with h3 | h3
  · exact h3
  · rw [Nat.testBit_lt_two_pow (Nat.lt_of_lt_of_le h1 (Nat.pow_le_pow_right (by decide) h3))] at hi; cases hi
theorem deB_two : ∀ j : Fin 32, deB.getD (2 ^ j.val * 125613361 % 4294967296 / 134217728) 0 = (j.val : Int) := by decide +kernel
theorem ntz_is {a : Int} (h : IsW a) (h0 : a ≠ 0) : ∃ j : Nat, j < 32 ∧ ntz a = (j : Int) ∧ wb a j = true ∧ ∀ k : Nat, k < j → wb a k = false := by
  obtain ⟨i, hi, hb⟩ := w_zero h h0
  obtain ⟨h1, h2⟩ := w_nat h
  obtain ⟨j, hj, hj1, hj2⟩ := PpN.first_of (wb a) 32 i hi hb
  refine ⟨j, by omega, ?_, hj1, hj2⟩
  have e := PpN.low_bit a.toNat j h1 hj1 hj2
  have hpos : 0 < a := by have := h.1; omega
  have hlt := h.2
  have e2 : bits .and .u32 a (4294967296 - a) = ((2 ^ j : Nat) : Int) := by
    rw [u32_and a (4294967296 - a) h.1 h.2 (by omega) (by omega)]
    rw [show (4294967296 - a).toNat = 2 ^ 32 - a.toNat by omega, e]
  unfold ntz
  rw [if_neg h0]
  have e3 : (ntzI a).toNat = 2 ^ j * 125613361 % 4294967296 / 134217728 := by
    unfold ntzI
    rw [e2]
    generalize 2 ^ j = P
    have e9 : (P : Int) * 125613361 % 4294967296 / 134217728 = ((P * 125613361 % 4294967296 / 134217728 : Nat) : Int) := by rw [Int.natCast_ediv, Int.natCast_emod, Int.natCast_mul]; rfl
    rw [e9, Int.toNat_natCast]
  rw [e3]
  exact deB_two ⟨j, by omega⟩
theorem ones_is {a : Int} (h : IsW a) : ones a = (PpN.cnt (wb a) 32 : Int) := by
  obtain ⟨h1, h2⟩ := w_nat h
  have e := PpN.ones_cnt a.toNat h1
  have e1 : ((a.toNat / 2 ^ 24 : Nat) : Int) = a / 16777216 := by omega
  have e2 : ((a.toNat / 2 ^ 16 % 256 : Nat) : Int) = a / 65536 % 256 := by omega
  have e3 : ((a.toNat / 2 ^ 8 % 256 : Nat) : Int) = a / 256 % 256 := by omega
  have e4 : ((a.toNat % 256 : Nat) : Int) = a % 256 := by omega
  rw [e1, e2, e3, e4] at e
  exact e
theorem high_is {a : Int} (h : IsW a) (h0 : a ≠ 0) : ∃ j : Nat, j < 32 ∧ (Lib.bitLen a.toNat : Int) - 1 = (j : Int) ∧ wb a j = true ∧ ∀ k : Nat, j < k → wb a k = false := by
  obtain ⟨h1, h2⟩ := w_nat h
  obtain ⟨a1, a2, a3, a4⟩ := PpN.high_bit a.toNat h1 (by omega)
  exact ⟨Lib.bitLen a.toNat - 1, by omega, by omega, a3, fun k hk => a4 k (by omega)⟩
theorem bt_lo (a b : Int) {k : Nat} (h : k < 32) : bt a b k = wb a k := by unfold bt; rw [if_pos h]
theorem bt_hi (a b : Int) (k : Nat) : bt a b (32 + k) = wb b k := by
  unfold bt
  rw [if_neg (by omega)]
  congr 1
  omega
/-- A set that isn't empty: its least place. -/
theorem bLow_is {a b : Int} (ha : IsW a) (hb : IsW b) (h : ∃ k : Nat, k < 64 ∧ bt a b k = true) : ∃ j : Nat, j < 64 ∧ bLow a b = (j : Int) ∧ bt a b j = true ∧ ∀ k : Nat, k < j → bt a b k = false := by
  unfold bLow
  by_cases h0 : a = 0
  · have hz : ∀ k, k < 32 → bt a b k = false := fun k hk => by
      rw [bt_lo a b hk, h0]
      show (0 : Int).toNat.testBit k = false
      exact Nat.zero_testBit k
    by_cases h1 : b = 0
    · obtain ⟨k, hk, hb2⟩ := h
      rcases Nat.lt_or_ge k 32 with h3 | h3
      · rw [hz k h3] at hb2; cases hb2
      · obtain ⟨m, rfl⟩ : ∃ m, k = 32 + m := ⟨k - 32, by omega⟩
        rw [bt_hi, h1] at hb2
        have : (0 : Int).toNat.testBit m = true := hb2
        rw [show (0 : Int).toNat = 0 from rfl, Nat.zero_testBit] at this
        cases this
    · obtain ⟨j, hj, e, h3, h4⟩ := ntz_is hb h1
      rw [if_neg (by simpa using h0), if_pos h1, e]
      refine ⟨32 + j, by omega, by omega, by rw [bt_hi]; exact h3, fun k hk => ?_⟩
      rcases Nat.lt_or_ge k 32 with h5 | h5
      · exact hz k h5
      · obtain ⟨m, rfl⟩ : ∃ m, k = 32 + m := ⟨k - 32, by omega⟩
        rw [bt_hi]
        exact h4 m (by omega)
  · obtain ⟨j, hj, e, h3, h4⟩ := ntz_is ha h0
    rw [if_pos h0, e]
    exact ⟨j, by omega, rfl, by rw [bt_lo a b hj]; exact h3, fun k hk => by rw [bt_lo a b (by omega)]; exact h4 k hk⟩
theorem bHigh_is {a b : Int} (ha : IsW a) (hb : IsW b) (h : ∃ k : Nat, k < 64 ∧ bt a b k = true) : ∃ j : Nat, j < 64 ∧ bHigh a b = (j : Int) ∧ bt a b j = true ∧ ∀ k : Nat, j < k → k < 64 → bt a b k = false := by
  unfold bHigh
  by_cases h1 : b = 0
  · have hz : ∀ k, bt a b (32 + k) = false := fun k => by
      rw [bt_hi, h1]
      show (0 : Int).toNat.testBit k = false
      exact Nat.zero_testBit k
    by_cases h0 : a = 0
    · obtain ⟨k, hk, hb2⟩ := h
      rcases Nat.lt_or_ge k 32 with h3 | h3
      · rw [bt_lo a b h3, h0] at hb2
        have : (0 : Int).toNat.testBit k = true := hb2
        rw [show (0 : Int).toNat = 0 from rfl, Nat.zero_testBit] at this
        cases this
      · obtain ⟨m, rfl⟩ : ∃ m, k = 32 + m := ⟨k - 32, by omega⟩
        rw [hz m] at hb2; cases hb2
    · obtain ⟨j, hj, e, h3, h4⟩ := high_is ha h0
      rw [if_neg (by simpa using h1), if_pos h0, e]
      refine ⟨j, by omega, rfl, by rw [bt_lo a b hj]; exact h3, fun k hk hk2 => ?_⟩
      rcases Nat.lt_or_ge k 32 with h5 | h5
      · rw [bt_lo a b h5]
        exact h4 k hk
      · obtain ⟨m, rfl⟩ : ∃ m, k = 32 + m := ⟨k - 32, by omega⟩
        exact hz m
  · obtain ⟨j, hj, e, h3, h4⟩ := high_is hb h1
    rw [if_pos h1]
    refine ⟨32 + j, by omega, by omega, by rw [bt_hi]; exact h3, fun k hk hk2 => ?_⟩
    obtain ⟨m, rfl⟩ : ∃ m, k = 32 + m := ⟨k - 32, by omega⟩
    rw [bt_hi]
    exact h4 m (by omega)
theorem bSize_is {a b : Int} (ha : IsW a) (hb : IsW b) : bSize a b = (PpN.cnt (bt a b) 64 : Int) := by
  unfold bSize
  rw [ones_is ha, ones_is hb, show (64 : Nat) = 32 + 32 by decide, PpN.cnt_add]
  have e1 : PpN.cnt (bt a b) 32 = PpN.cnt (wb a) 32 := PpN.cnt_congr fun k hk => bt_lo a b hk
  have e2 : PpN.cnt (fun k => bt a b (32 + k)) 32 = PpN.cnt (wb b) 32 := PpN.cnt_congr fun k _ => bt_hi a b k
  rw [e1, e2]
  omega
/-- It isn't empty. -/
def Dm.Any (d : Dm) : Prop := ∃ k : Nat, k < 64 ∧ bt d.a d.b k = true
theorem Dm.has_is {d : Dm} (h : d.Ok) (v : Int) : d.has v = true ↔ ∃ k : Nat, k < 64 ∧ v = d.f + (k : Int) ∧ bt d.a d.b k = true := by
  unfold Dm.has dHas
  constructor
  · intro hh
    have h0 : 0 ≤ dPlc d.f v ∧ dPlc d.f v < 64 := by
      unfold btAt at hh
      simp only [Bool.and_eq_true, decide_eq_true_eq] at hh
      exact hh.1
    obtain ⟨k, hk⟩ : ∃ k : Nat, dPlc d.f v = (k : Int) := ⟨(dPlc d.f v).toNat, by omega⟩
    rw [hk] at hh h0
    rw [btAt_bt h.a h.b k (by omega)] at hh
    refine ⟨k, by omega, ?_, hh⟩
    unfold dPlc at hk
    omega
  · rintro ⟨k, hk, rfl, hb⟩
    have e : dPlc d.f (d.f + (k : Int)) = (k : Int) := by unfold dPlc; omega
    rw [e, btAt_bt h.a h.b k hk]
    exact hb
theorem fine_of {d : Dm} (h : d.Ok) (hs : d.Any) : d.Fine := by
  obtain ⟨l, l1, l2, l3, l4⟩ := bLow_is h.a h.b hs
  obtain ⟨g, g1, g2, g3, g4⟩ := bHigh_is h.a h.b hs
  have el : d.lo = d.f + (l : Int) := by unfold Dm.lo; rw [l2]
  have eg : d.hi = d.f + (g : Int) := by unfold Dm.hi; rw [g2]
  have hl : d.has d.lo = true := (d.has_is h _).2 ⟨l, l1, el, l3⟩
  have hg : d.has d.hi = true := (d.has_is h _).2 ⟨g, g1, eg, g3⟩
  have least : ∀ v, d.has v = true → d.lo ≤ v := fun v hv => by
    obtain ⟨k, hk, rfl, hb⟩ := (d.has_is h v).1 hv
    rcases Nat.lt_or_ge k l with hlt | hge
    · rw [l4 k hlt] at hb; cases hb
    · omega
  have most : ∀ v, d.has v = true → v ≤ d.hi := fun v hv => by
    obtain ⟨k, hk, rfl, hb⟩ := (d.has_is h v).1 hv
    rcases Nat.lt_or_ge g k with hlt | hge
    · rw [g4 k hlt hk] at hb; cases hb
    · omega
  have hsz : d.size = (PpN.cnt (bt d.a d.b) 64 : Int) := bSize_is h.a h.b
  have h1 := h.f1
  have h2 := h.f2
  refine ⟨hl, hg, least, most, ?_, ?_, ?_, ?_, by omega, by omega⟩
  · unfold Dm.one
    rw [decide_eq_true_eq, hsz]
    constructor
    · intro hc
      have hle := least _ hg
      rcases Nat.lt_or_ge l g with hlt | hge
      · have := PpN.cnt_two hlt g1 l3 g3
        omega
      · omega
    · intro he
      have hlg : l = g := by omega
      have := PpN.cnt_one (p := bt d.a d.b) (n := 64) fun i j hij hj hi => by
        rcases Nat.lt_or_ge i l with hlt | hge
        · rw [l4 i hlt] at hi; cases hi
        · exact g4 j (by omega) hj
      omega
  · rw [hsz]
    have := PpN.cnt_pos l1 l3
    omega
  · intro v
    unfold Dm.all dAll dVals
    rw [List.mem_filter, List.mem_map]
    constructor
    · exact fun hh => hh.2
    · intro hv
      refine ⟨⟨(v - d.lo).toNat, ?_, ?_⟩, hv⟩
      · rw [List.mem_range]
        have := most v hv
        have := least v hv
        unfold dN
        unfold Dm.lo Dm.hi at *
        omega
      · have := least v hv
        unfold Dm.lo at *
        omega
  · unfold Dm.all dAll dVals
    refine List.Pairwise.sublist List.filter_sublist ?_
    rw [List.pairwise_map]
    exact List.pairwise_lt_range.imp fun {a b} hab => by omega

/-! Stores. -/
def Alls (s : St) : Prop := ∀ d ∈ s.now, d.Ok ∧ d.Any
theorem any_new {v : Md.Vr} (h : Md.boundsB v.lo v.hi = true) : (wholeD v).Any := by
  have hb := Md.bounds_of h
  refine ⟨0, by omega, ?_⟩
  show bt (wWd v.lo v.hi 0) (wWd v.lo v.hi 1) 0 = true
  rw [bt_whole v.lo v.hi 0 (by omega)]
  simp
  omega
theorem alls_new (m : Md.Mo) : Alls (newS m) := by
  intro d hd
  unfold newS at hd
  split at hd
  · rename_i h
    obtain ⟨v, hv, rfl⟩ := List.mem_map.1 hd
    exact ⟨wholeD_ok ((Md.right_of h).var v hv).2, any_new ((Md.right_of h).var v hv).2⟩
  · cases hd
theorem any_words {d : Dm} (h : d.Ok) (h0 : d.eqB ⟨0, 0, 0⟩ = false) : d.Any := by
  unfold Dm.eqB at h0
  by_cases ha : d.a = 0
  · have hb : d.b ≠ 0 := fun e => by
      rw [ha, e] at h0
      simp at h0
    obtain ⟨j, hj, hw⟩ := w_zero h.b hb
    exact ⟨32 + j, by omega, by rw [bt_hi]; exact hw⟩
  · obtain ⟨j, hj, hw⟩ := w_zero h.a ha
    exact ⟨j, by omega, by rw [bt_lo _ _ hj]; exact hw⟩
theorem cut_get {s : St} (k x v : Int) (y : Nat) (hy : y < s.now.length) : ∃ h2 : y < (s.cut k x v).now.length, (s.cut k x v).now[y] = s.now[y] ∨ ((s.cut k x v).now[y] = s.now[y].cut k v ∧ s.now[y].went k v = true) := by
  unfold St.cut
  split
  · exact ⟨hy, .inl rfl⟩
  · rename_i d hd
    split
    · rename_i hw
      rw [Bool.and_eq_true] at hw
      refine ⟨by simpa using hy, ?_⟩
      by_cases e : x.toNat = y
      · subst e
        rw [List.getElem?_eq_getElem hy] at hd
        injection hd with hd
        refine .inr ⟨?_, by rw [hd]; exact hw.2⟩
        simp [hd]
      · refine .inl ?_
        simp [e]
    · exact ⟨hy, .inl rfl⟩
theorem alls_cut {s : St} (h : Alls s) (k x v : Int) : Alls (s.cut k x v) := by
  intro d hd
  obtain ⟨y, hy, rfl⟩ := List.mem_iff_getElem.1 hd
  have hl : y < s.now.length := by
    have : (s.cut k x v).now.length = s.now.length := by
      unfold St.cut
      split
      · rfl
      · split
        · simp
        · rfl
    omega
  obtain ⟨_, h3 | ⟨h3, h4⟩⟩ := cut_get (s := s) k x v y hl
  · rw [h3]
    exact h _ (List.getElem_mem hl)
  · rw [h3]
    have ho := (h _ (List.getElem_mem hl)).1.cut k v
    refine ⟨ho, any_words ho ?_⟩
    unfold Dm.went at h4
    simp at h4
    exact h4.2
theorem cut_fewer {d : Dm} (h : d.Ok) (k v : Int) (u : Int) (hu : (d.cut k v).has u = true) : d.has u = true ∧ takesB k v u = false := by
  obtain ⟨j, hj, rfl, hb⟩ := (Dm.has_is (h.cut k v) u).1 hu
  have hb : bt (lWd (dPlc d.f v) k d.a 0) (lWd (dPlc d.f v) k d.b 1) j = true := hb
  rw [bt_cut h.a h.b k v j hj] at hb
  simp at hb
  exact ⟨(Dm.has_is h _).2 ⟨j, hj, rfl, hb.1⟩, hb.2⟩
theorem cut_has {d : Dm} (h : d.Ok) (k v : Int) (u : Int) (hu : d.has u = true) (ht : takesB k v u = false) : (d.cut k v).has u = true := by
  obtain ⟨j, hj, rfl, hb⟩ := (Dm.has_is h u).1 hu
  refine (Dm.has_is (h.cut k v) _).2 ⟨j, hj, rfl, ?_⟩
  show bt (lWd (dPlc d.f v) k d.a 0) (lWd (dPlc d.f v) k d.b 1) j = true
  rw [bt_cut h.a h.b k v j hj, hb, ht]
  rfl
theorem new_has {v : Md.Vr} (h : Md.boundsB v.lo v.hi = true) (u : Int) : (wholeD v).has u = true ↔ v.lo ≤ u ∧ u ≤ v.hi := by
  have hb := Md.bounds_of h
  rw [Dm.has_is (wholeD_ok h)]
  constructor
  · rintro ⟨k, hk, e, h2⟩
    have h2 : bt (wWd v.lo v.hi 0) (wWd v.lo v.hi 1) k = true := h2
    rw [bt_whole v.lo v.hi k hk] at h2
    have := of_decide_eq_true h2
    have e : u = v.lo + (k : Int) := e
    omega
  · rintro ⟨h1, h2⟩
    refine ⟨(u - v.lo).toNat, by omega, ?_, ?_⟩
    · show u = v.lo + _
      omega
    · show bt (wWd v.lo v.hi 0) (wWd v.lo v.hi 1) _ = true
      rw [bt_whole v.lo v.hi _ (by omega)]
      exact decide_eq_true (by omega)
end Go.Proofs.YtchpapppkmnfnaaGreatDoor

namespace Go.Proofs.YtchpapppkmnfnaaGreatDoor
open Go.RowKit

/-- Rising lists with the same members are the same. -/
theorem up_ext : ∀ {L M : List Int}, L.Pairwise (· < ·) → M.Pairwise (· < ·) → (∀ v, v ∈ L ↔ v ∈ M) → L = M
  | [], [], _, _, _ => rfl
  | [], m :: M, _, _, h => absurd ((h m).2 (by simp)) (by simp)
  | l :: L, [], _, _, h => absurd ((h l).1 (by simp)) (by simp)
  | l :: L, m :: M, hL, hM, h => by
    have hL1 := List.pairwise_cons.1 hL
    have hM1 := List.pairwise_cons.1 hM
    have e : l = m := by
      have a1 := (h l).1 (by simp)
      have a2 := (h m).2 (by simp)
      rcases List.mem_cons.1 a1 with a1 | a1
      · exact a1
      · rcases List.mem_cons.1 a2 with a2 | a2
        · exact a2.symm
        · have := hM1.1 _ a1
          have := hL1.1 _ a2
          omega
    subst e
    refine congrArg _ (up_ext hL1.2 hM1.2 fun v => ⟨fun hv => ?_, fun hv => ?_⟩)
    · rcases List.mem_cons.1 ((h v).1 (List.mem_cons_of_mem _ hv)) with e | e
      · have := hL1.1 _ hv; omega
      · exact e
    · rcases List.mem_cons.1 ((h v).2 (List.mem_cons_of_mem _ hv)) with e | e
      · have := hM1.1 _ hv; omega
      · exact e

/-- What the document's Cut leaves of a list. -/
def lft (k v : Int) (L : List Int) : List Int := L.filter fun u => !takesB k v u
theorem lft_mem {d : Dm} (h : d.Ok) (hf : d.Fine) (k v u : Int) : u ∈ lft k v d.all ↔ (d.cut k v).has u = true := by
  unfold lft
  rw [List.mem_filter, hf.all]
  constructor
  · rintro ⟨h1, h2⟩
    exact cut_has h k v u h1 (by simpa using h2)
  · intro h1
    obtain ⟨a, b⟩ := cut_fewer h k v u h1
    exact ⟨a, by simp [b]⟩
theorem eqB_of {d e : Dm} (h : d.eqB e = true) : d.a = e.a ∧ d.b = e.b := by
  unfold Dm.eqB at h
  simpa using h
theorem all_ne {d : Dm} (hf : d.Fine) : d.all ≠ [] := fun e => by
  have := (hf.all d.lo).2 hf.loIn
  rw [e] at this
  cases this
/-- A cut that leaves nothing. -/
theorem lft_nil {d : Dm} (h : d.Ok) (hf : d.Fine) (k v : Int) (h0 : (d.cut k v).eqB ⟨0, 0, 0⟩ = true) : lft k v d.all = [] := by
  rw [List.eq_nil_iff_forall_not_mem]
  intro u hu
  rw [lft_mem h hf] at hu
  obtain ⟨j, hj, _, hb⟩ := (Dm.has_is (h.cut k v) u).1 hu
  obtain ⟨e1, e2⟩ := eqB_of h0
  rw [e1, e2] at hb
  unfold bt wb at hb
  split at hb <;> simp at hb
theorem lft_cut {d : Dm} (h : d.Ok) (hf : d.Fine) (k v : Int) (h0 : (d.cut k v).eqB ⟨0, 0, 0⟩ = false) : lft k v d.all = (d.cut k v).all := by
  have hF := fine_of (h.cut k v) (any_words (h.cut k v) h0)
  refine up_ext (hf.up.filter _) hF.up fun u => ?_
  rw [hF.all]
  exact lft_mem h hf k v u
theorem all_eq {d e : Dm} (hf : d.f = e.f) (h : d.eqB e = true) : d.all = e.all := by
  obtain ⟨h1, h2⟩ := eqB_of h
  unfold Dm.all
  rw [hf, h1, h2]
theorem not_zero {d : Dm} (ha : d.Any) : d.eqB ⟨0, 0, 0⟩ = false := by
  cases h0 : d.eqB ⟨0, 0, 0⟩ with
  | false => rfl
  | true =>
    obtain ⟨k, hk, hb⟩ := ha
    obtain ⟨e1, e2⟩ := eqB_of h0
    rw [e1, e2] at hb
    unfold bt wb at hb
    split at hb <;> simp at hb
/-- What Cut answers, by lists. -/
theorem went_is {d : Dm} (h : d.Ok) (ha : d.Any) (k v : Int) :
    d.went k v = (!(lft k v d.all).isEmpty && decide ((lft k v d.all).length < d.all.length)) ∧ d.may k v = !(lft k v d.all).isEmpty ∧ ((if d.went k v then d.cut k v else d).all = if (lft k v d.all).isEmpty then d.all else lft k v d.all) := by
  have hf := fine_of h ha
  unfold Dm.went Dm.may
  cases h0 : (d.cut k v).eqB ⟨0, 0, 0⟩ with
  | true =>
    have e := lft_nil h hf k v h0
    have h1 : (d.cut k v).eqB d = false := by
      cases h1 : (d.cut k v).eqB d with
      | false => rfl
      | true =>
        obtain ⟨a1, a2⟩ := eqB_of h0
        obtain ⟨b1, b2⟩ := eqB_of h1
        have := not_zero ha
        unfold Dm.eqB at this
        rw [← b1, ← b2, a1, a2] at this
        simp at this
    rw [e, h1]
    simp
  | false =>
    have e := lft_cut h hf k v h0
    have hF := fine_of (h.cut k v) (any_words (h.cut k v) h0)
    have hne : lft k v d.all ≠ [] := by rw [e]; exact all_ne hF
    have hE : (lft k v d.all).isEmpty = false := by simpa using hne
    rw [hE]
    cases h1 : (d.cut k v).eqB d with
    | true =>
      have : (d.cut k v).all = d.all := all_eq rfl h1
      rw [e, this]
      simp
    | false =>
      have hl : (lft k v d.all).length < d.all.length := by
        have hle : (lft k v d.all).length ≤ d.all.length := List.length_filter_le _ _
        rcases Nat.lt_or_ge (lft k v d.all).length d.all.length with hq | hq
        · exact hq
        · exfalso
          have heq : lft k v d.all = d.all := (List.filter_sublist (p := fun u => !takesB k v u) (l := d.all)).eq_of_length (by unfold lft at hle hq; omega)
          have hb : ∀ j, j < 64 → bt (d.cut k v).a (d.cut k v).b j = bt d.a d.b j := fun j hj => by
            have h1 : bt (lWd (dPlc d.f v) k d.a 0) (lWd (dPlc d.f v) k d.b 1) j = (bt d.a d.b j && !takesB k v (d.f + (j : Int))) := bt_cut h.a h.b k v j hj
            show bt (lWd (dPlc d.f v) k d.a 0) (lWd (dPlc d.f v) k d.b 1) j = _
            rw [h1]
            cases hbj : bt d.a d.b j with
            | false => rfl
            | true =>
              have hm : d.f + (j : Int) ∈ d.all := (hf.all _).2 ((Dm.has_is h _).2 ⟨j, hj, rfl, hbj⟩)
              rw [← heq] at hm
              have := (List.mem_filter.1 hm).2
              simpa using this
          obtain ⟨e1, e2⟩ := bt_ext (h.cut k v).a (h.cut k v).b h.a h.b hb
          have : (d.cut k v).eqB d = true := by unfold Dm.eqB; rw [e1, e2]; simp
          rw [h1] at this
          cases this
      exact ⟨by simp [hl], by simp, by simp [e]⟩
/-- The document's new list. -/
def spanL (lo hi : Int) : List Int := (List.range (hi - lo + 1).toNat).map fun k : Nat => lo + (k : Int)
theorem spanL_up (lo hi : Int) : (spanL lo hi).Pairwise (· < ·) := by
  unfold spanL
  rw [List.pairwise_map]
  exact List.pairwise_lt_range.imp fun h => by omega
theorem spanL_mem (lo hi v : Int) : v ∈ spanL lo hi ↔ lo ≤ v ∧ v ≤ hi := by
  unfold spanL
  rw [List.mem_map]
  constructor
  · rintro ⟨k, hk, rfl⟩
    rw [List.mem_range] at hk
    omega
  · rintro ⟨h1, h2⟩
    exact ⟨(v - lo).toNat, by rw [List.mem_range]; omega, by omega⟩
theorem whole_all {v : Md.Vr} (h : Md.boundsB v.lo v.hi = true) : (wholeD v).all = spanL v.lo v.hi := by
  have hF := fine_of (wholeD_ok h) (any_new h)
  refine up_ext hF.up (spanL_up _ _) fun u => ?_
  rw [hF.all, new_has h, spanL_mem]

/-- Packed. -/
theorem wb_or {x y : Int} (hx : IsW x) (hy : IsW y) (j : Nat) : wb (bits .or .u32 x y) j = (wb x j || wb y j) := by
  unfold wb
  rw [u32_or x y hx.1 hx.2 hy.1 hy.2, Int.toNat_natCast, Nat.testBit_or]
theorem bt_or {a b c d : Int} (ha : IsW a) (hb : IsW b) (hc : IsW c) (hd : IsW d) (k : Nat) : bt (bits .or .u32 a c) (bits .or .u32 b d) k = (bt a b k || bt c d k) := by
  unfold bt
  split
  · exact wb_or ha hc k
  · exact wb_or hb hd _
theorem bt_only (q : Int) (k : Nat) (hk : k < 64) : bt (oWd q 0) (oWd q 1) k = decide (q = (k : Int)) := by
  unfold oWd
  rw [bt_less (isW_fWd _ _) (isW_fWd _ _) (isW_fWd _ _) (isW_fWd _ _) k hk, bt_from q k hk, bt_from (q + 1) k hk]
  by_cases h1 : q ≤ (k : Int) <;> by_cases h2 : q + 1 ≤ (k : Int) <;> by_cases h3 : q = (k : Int) <;> simp [h1, h2, h3] <;> omega
theorem bt_pk (l : Int) (L : List Int) (p : Int × Int) (h1 : IsW p.1) (h2 : IsW p.2) (k : Nat) (hk : k < 64) : bt (L.foldl (pkStep l) p).1 (L.foldl (pkStep l) p).2 k = (bt p.1 p.2 k || decide (l + (k : Int) ∈ L)) := by
  induction L generalizing p with
  | nil => simp
  | cons v L ih =>
    rw [List.foldl_cons, ih (pkStep l p v) (isW_bits .or _ _) (isW_bits .or _ _)]
    show (bt (bits .or .u32 p.1 (oWd (v - l) 0)) (bits .or .u32 p.2 (oWd (v - l) 1)) k || _) = _
    rw [bt_or h1 h2 (by unfold oWd; exact isW_bits _ _ _) (by unfold oWd; exact isW_bits _ _ _), bt_only (v - l) k hk, Bool.or_assoc]
    congr 1
    by_cases e : v - l = (k : Int)
    · have : l + (k : Int) = v := by omega
      simp [e, this]
    · have : l + (k : Int) ≠ v := by omega
      simp [e, this]
/-- What the program's same says of two domains. -/
def Dm.same (d e : Dm) : Bool := decide (d.lo = e.lo) && (decide ((dPack d.f d.a d.b).1 = (dPack e.f e.a e.b).1) && decide ((dPack d.f d.a d.b).2 = (dPack e.f e.a e.b).2))
theorem same_is {d e : Dm} (h : d.Ok) (ha : d.Any) (k : e.Ok) (ka : e.Any) : d.same e = decide (d.all = e.all) := by
  have hf := fine_of h ha
  have kf := fine_of k ka
  have bd : ∀ {d : Dm}, d.Ok → d.Fine → ∀ v, d.has v = true → v - d.lo < 64 ∧ 0 ≤ v - d.lo := fun {d} h hf v hv => by
    have h1 := hf.least v hv
    obtain ⟨j, hj, rfl, _⟩ := (Dm.has_is h v).1 hv
    obtain ⟨i, hi, e, _⟩ := (Dm.has_is h d.lo).1 hf.loIn
    omega
  by_cases e1 : d.all = e.all
  · have hlo : d.lo = e.lo := by
      have a1 := hf.least e.lo ((hf.all _).1 (by rw [e1]; exact (kf.all _).2 kf.loIn))
      have a2 := kf.least d.lo ((kf.all _).1 (by rw [← e1]; exact (hf.all _).2 hf.loIn))
      omega
    have hp : dPack d.f d.a d.b = dPack e.f e.a e.b := by
      show pkL d.lo d.all = pkL e.lo e.all
      rw [hlo, e1]
    unfold Dm.same
    rw [hlo, hp]
    simp [e1]
  · have : d.same e = false := by
      cases hs : d.same e with
      | false => rfl
      | true =>
        exfalso
        unfold Dm.same at hs
        simp only [Bool.and_eq_true, decide_eq_true_eq] at hs
        obtain ⟨hlo, hp1, hp2⟩ := hs
        have z : IsW (0 : Int) := by unfold IsW; omega
        refine e1 (up_ext hf.up kf.up fun v => ?_)
        have q1 := bt_pk d.lo d.all (0, 0) z z
        have q2 := bt_pk e.lo e.all (0, 0) z z
        have hq : ∀ j : Nat, j < 64 → (d.lo + (j : Int) ∈ d.all ↔ e.lo + (j : Int) ∈ e.all) := fun j hj => by
          have a1 := q1 j hj
          have a2 := q2 j hj
          have hp1 : (d.all.foldl (pkStep d.lo) (0, 0)).1 = (e.all.foldl (pkStep e.lo) (0, 0)).1 := hp1
          have hp2 : (d.all.foldl (pkStep d.lo) (0, 0)).2 = (e.all.foldl (pkStep e.lo) (0, 0)).2 := hp2
          rw [hp1, hp2, a2] at a1
          have b0 : bt (0 : Int) 0 j = false := by unfold bt wb; split <;> simp
          simp only [b0, Bool.false_or, decide_eq_decide] at a1
          exact a1.symm
        constructor
        · intro hv
          obtain ⟨c1, c2⟩ := bd h hf v ((hf.all v).1 hv)
          have := (hq (v - d.lo).toNat (by omega)).1 (by rw [show d.lo + ((v - d.lo).toNat : Int) = v by omega]; exact hv)
          rwa [show e.lo + ((v - d.lo).toNat : Int) = v by omega] at this
        · intro hv
          obtain ⟨c1, c2⟩ := bd k kf v ((kf.all v).1 hv)
          have := (hq (v - e.lo).toNat (by omega)).2 (by rw [show e.lo + ((v - e.lo).toNat : Int) = v by omega]; exact hv)
          rwa [show d.lo + ((v - e.lo).toNat : Int) = v by omega] at this
    rw [this]
    simp [e1]
end Go.Proofs.YtchpapppkmnfnaaGreatDoor
