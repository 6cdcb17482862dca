/-
  Put together: BrStores, BrPicksW.
-/
import Derived.Test.YtdfbmfikhccajaaGreatDoorJ48
import Derived.Test.YtdfbmfikhccajaaGreatDoorDtDuo
import Derived.Test.YtdfbmfikhccajaaGreatDoorDmOrdO
import Derived.Test.YtdfbmfikhccajaaGreatDoorJ42
namespace Go.Proofs.YtdfbmfikhccajaaGreatDoor
open Go.RowKit

/-- Both stores, that say the same. -/
structure Two (B : Nat) (O : Nat → Prop) (w : World) (p r : Nat) (s : St) : Prop where
  du : Duo B O w p r s (s.now.map Dm.all) (mksOf s)
  al : Alls s
theorem Two.below {B : Nat} {O : Nat → Prop} {w w' : World} {p r : Nat} {s : St} (h : Two B O w p r s) (hb : Below w.heap.size w w') : Two B O w' p r s := ⟨h.du.below hb, h.al⟩
/-- A cut of both. -/
theorem Two.cut1 {B : Nat} {O : Nat → Prop} {w : World} {p r : Nat} {s : St} (h : Two B O w p r s) (k x v : Int) : Calls Tryz.prog 12 #[.pointer (some ⟨p, 0, none⟩), .agg #[.int .i64 k, .int .i64 x, .int .i64 v]] w fun e w' => (∃ u, e = .returned u) ∧ (∃ O', Duo B O' w' p r (s.cut k x v) (s.now.map Dm.all) (mksOf s)) ∧ Below B w w' :=
  (h.du.cut1 k x v).mono fun e w' hq => by
    obtain ⟨q1, O', q2, q3, q4⟩ := hq
    exact ⟨⟨_, q1⟩, ⟨O', q2⟩, q3.below⟩
theorem two_cut2 {B : Nat} {O : Nat → Prop} {w : World} {p r : Nat} {s : St} (ha : Alls s) (k x v : Int) (h : Duo B O w p r (s.cut k x v) (s.now.map Dm.all) (mksOf s)) : Calls Tryz.prog 22 #[.pointer (some ⟨r, 0, none⟩), .agg #[.int .i64 k, .int .i64 x, .int .i64 v]] w fun e w' => (∃ u, e = .returned u) ∧ (∃ O', Two B O' w' p r (s.cut k x v)) ∧ Below B w w' :=
  (h.cut2 k x v).mono fun e w' hq => by
    obtain ⟨q1, O', q2, q3, q4⟩ := hq
    obtain ⟨e1, _, _⟩ := cut_rel ha k x v
    rw [← e1, ← cut_mks s k x v] at q2
    exact ⟨⟨_, q1⟩, ⟨O', q2, alls_cut ha k x v⟩, q3.below⟩
/-- What stores leaves. -/
def SsOut (w : World) (e : Ending) (w' : World) : Prop := ∃ p r O s, e = .returned (.tuple #[.pointer (some ⟨p, 0, none⟩), .pointer (some ⟨r, 0, none⟩)]) ∧ Two w.heap.size O w' p r s ∧ Below w.heap.size w w'

set_option maxRecDepth 10000 in
set_option maxHeartbeats 1000000 in
theorem stores_any (m : Md.Mo) (vv vc vg : Value) (la : Option Addr) (lc : Nat) (L : List Ct) (w : World) (h : MoAt w m vv vc vg) (hL : ∀ w', Below w.heap.size w w' → CtsAt w' la L) (hl : L.length ≤ 300) (hs : 0 < w.heap.size) : Calls Tryz.prog 7 #[moVal m vv vc vg, .slice la L.length lc] w (SsOut w) := by
  obtain ⟨W, hW⟩ : ∃ W, w.alloc (.cells #[vv, vc, .bool m.has, vg] 26) = W := ⟨_, rfl⟩
  have hb0 : Below w.heap.size w W := by rw [← hW]; exact (Below.refl _ _).alloc (Nat.le_refl _) _
  have g0 : W.heap[w.heap.size]? = some (.cells #[vv, vc, .bool m.has, vg] 26 (0, 0)) := by rw [← hW]; exact heap_alloc_new w _
  have hlt := (Array.getElem?_eq_some_iff.1 g0).1
  have HB : Hid (Below w.heap.size w W) := hb0
  have hsW : 0 < W.heap.size := Nat.lt_of_lt_of_le hs hb0.size
  have HLC : Hid (∀ w', Below w.heap.size w w' → CtsAt w' la L) := hL
  have HM : Hid (∀ w', Below W.heap.size W w' → w'.cell? ⟨w.heap.size, 0, none⟩ = some vv ∧ w'.cell? ⟨w.heap.size, 1, none⟩ = some vc ∧ w'.cell? ⟨w.heap.size, 2, none⟩ = some (.bool m.has) ∧ w'.cell? ⟨w.heap.size, 3, none⟩ = some vg) := fun w' hb => by
    have g1 := (hb.block _ hlt).trans g0
    exact ⟨cell_of g1 0, cell_of g1 1, cell_of g1 2, cell_of g1 3⟩
  have HNw : Hid (∀ (w' : World), Below W.heap.size W w' → Calls Tryz.prog 18 #[.agg #[vv, vc, .bool m.has, vg]] w' (NewOut m w')) := fun w' hb => new_any m vv vc vg w' ((h.below hb0).below hb) (Nat.lt_of_lt_of_le hsW hb.size)
  have HRn : Hid (∀ (w' : World), Below W.heap.size W w' → Calls Tryz.prog 21 #[.agg #[vv, vc, .bool m.has, vg]] w' (RnOut m w')) := fun w' hb => rNew_any m vv vc vg w' ((h.below hb0).below hb)
  obtain ⟨c0, c1, c2, c3⟩ := HM.out W (Below.refl _ _)
  clear hb0 g0 hlt h hL
  unfold moVal
  go_enter Tryz.func7, Tryz.ntmps7
  go_wp2_with fail
  have HS : Hid (∀ w', Below W.heap.size W w' → w'.cell? ⟨w.heap.size, 0, none⟩ = some vv ∧ w'.cell? ⟨w.heap.size, 1, none⟩ = some vc ∧ w'.cell? ⟨w.heap.size, 2, none⟩ = some (.bool m.has) ∧ w'.cell? ⟨w.heap.size, 3, none⟩ = some vg ∧ Below W.heap.size W w') := fun w' hb => by
    obtain ⟨y0, y1, y2, y3⟩ := HM.out w' hb
    exact ⟨y0, y1, y2, y3, hb⟩
  go_region_held3 (fun w' => w'.cell? ⟨w.heap.size, 0, none⟩ = some vv ∧ w'.cell? ⟨w.heap.size, 1, none⟩ = some vc ∧ w'.cell? ⟨w.heap.size, 2, none⟩ = some (.bool m.has) ∧ w'.cell? ⟨w.heap.size, 3, none⟩ = some vg ∧ Below W.heap.size W w')
    (first | exact HS.out _ (Below.refl _ _).drew | exact HS.out _ (bl_next (And.right (And.right (And.right (And.right (by assumption))))) (by assumption)) | assumption)
    (first
      | (go_at_call 18; refine calls_at (HNw.out W.drew (Below.refl _ _).drew) (by with_reducible rfl) (by with_reducible rfl) ?_; rintro e w1 ⟨p, nv, mv, rfl, hA1, hb1⟩; (have HA1 : Hid (StAt W.heap.size w1 p nv mv (newS m)) := hA1); clear hA1)
      | (go_at_call 21; refine calls_at (HRn.out w1 (And.right (And.right (And.right (And.right (by assumption)))))) (by with_reducible rfl) (by with_reducible rfl) ?_; rintro e w2 ⟨r, S, rfl, hR2, hb2⟩; (have HR2 : Hid (RsAt w1.heap.size S w2 r (newLL m) [] ∧ Below w1.heap.size w1 w2) := ⟨hR2, hb2⟩); (have HB1 : Hid (Below W.heap.size W w1) := And.right (And.right (And.right (And.right (by assumption))))); clear hR2))
  have hT : ∃ O, Two w.heap.size O w2 p r (newS m) := by
    obtain ⟨e1, e2, e3⟩ := new_rel m
    have hwW := HB.out.size
    have hW1 := HB1.out.size
    have h12 := HR2.out.2.size
    refine ⟨fun k => w.heap.size ≤ k ∧ k < w2.heap.size, ⟨⟨nv, mv, S, W.heap.size, HA1.out.below HR2.out.2, ?_, hwW, fun k hk => ?_, fun k hk => ?_, fun k hk hS => ?_⟩, fun k hk => hk.1, fun k hk => hk.2⟩, alls_new m⟩
    · rw [e1, e2]
      have := HR2.out.1
      exact { this with lo := fun k hk => by have := this.lo k hk; omega }
    · have a1 := own_lo HA1.out hk
      have a2 := own_lt HA1.out hk
      exact ⟨by omega, by omega⟩
    · have a1 := HR2.out.1.lo k hk
      have a2 := HR2.out.1.lt k hk
      exact ⟨by omega, by omega⟩
    · have a1 := HR2.out.1.lo k hS
      have a2 := own_lt HA1.out hk
      omega
  have HB2 : Hid (Below W.heap.size W w2) := bl_next HB1.out HR2.out.2
  have HT2 : Hid (∃ O, Two w.heap.size O w2 p r (newS m)) := hT
  have HBw : Hid (Below w.heap.size w w2) := HB.out.trans (HB2.out.mono HB.out.size)
  clear hT HA1 HR2 HB1 hb2
  go_wp2_with fail
  go_loopw [8] (fun iv wr => ∃ k : Nat, iv = .int .i64 (k : Int) ∧ k ≤ L.length ∧ Hid (∃ O s, Two w.heap.size O wr p r s) ∧ Hid (Below w.heap.size w wr)) (fun iv _ => L.length - (intOf iv).toNat)
  case atStart =>
    obtain ⟨O, hO⟩ := HT2.out
    exact ⟨0, rfl, Nat.zero_le _, ⟨O, _, hO⟩, HBw⟩
  case round =>
    obtain ⟨k, rfl, hk, HTr, HBr⟩ := hrel
    by_cases hkn : k < L.length
    · have hkI : (k : Int) < (L.length : Int) := by omega
      obtain ⟨O, s, hT⟩ := HTr.out
      obtain ⟨b, off, rfl, x0, x1, x2⟩ := HLC.out wr HBr.out k hkn
      obtain ⟨ck, hck⟩ : ∃ z, L[k].k = z := ⟨_, rfl⟩
      obtain ⟨cx, hcx⟩ : ∃ z, L[k].x = z := ⟨_, rfl⟩
      obtain ⟨cv, hcv⟩ : ∃ z, L[k].v = z := ⟨_, rfl⟩
      have HX : Hid (∀ w', Below w.heap.size w w' → w'.cell? ⟨b, off + k * 3, none⟩ = some (.int .i64 ck) ∧ w'.cell? ⟨b, off + k * 3 + 1, none⟩ = some (.int .i64 cx) ∧ w'.cell? ⟨b, off + k * 3 + 2, none⟩ = some (.int .i64 cv)) := fun w' hb => by
        obtain ⟨b', off', e, y0, y1, y2⟩ := HLC.out w' hb k hkn
        injection e with e
        injection e with e1 e2
        subst e1 e2
        rw [hck] at y0; rw [hcx] at y1; rw [hcv] at y2
        exact ⟨y0, y1, y2⟩
      rw [hck] at x0
      rw [hcx] at x1
      rw [hcv] at x2
      have HC1 : Hid (Calls Tryz.prog 12 #[.pointer (some ⟨p, 0, none⟩), .agg #[.int .i64 ck, .int .i64 cx, .int .i64 cv]] wr fun e w' => (∃ u, e = .returned u) ∧ (∃ O', Duo w.heap.size O' w' p r (s.cut ck cx cv) (s.now.map Dm.all) (mksOf s)) ∧ Below w.heap.size wr w') := hT.cut1 ck cx cv
      have HAl : Hid (Alls s) := hT.al
      clear hT HTr hck hcx hcv
      go_wp2_with fail
      refine calls_at HC1.out (by with_reducible rfl) (by with_reducible rfl) ?_
      rintro e w3 ⟨⟨u, rfl⟩, ⟨O', hD3⟩, hb3⟩
      have HB3 : Hid (Below w.heap.size w w3) := HBr.out.trans hb3
      have HC2 : Hid (Calls Tryz.prog 22 #[.pointer (some ⟨r, 0, none⟩), .agg #[.int .i64 ck, .int .i64 cx, .int .i64 cv]] w3 fun e w' => (∃ u, e = .returned u) ∧ (∃ O', Two w.heap.size O' w' p r (s.cut ck cx cv)) ∧ Below w.heap.size w3 w') := two_cut2 HAl.out ck cx cv hD3
      obtain ⟨y0, y1, y2⟩ := HX.out w3 HB3.out
      clear hD3 hb3 x0 x1 x2
      go_wp2_with fail
      refine calls_at HC2.out (by with_reducible rfl) (by with_reducible rfl) ?_
      rintro e w4 ⟨⟨u4, rfl⟩, ⟨O4, hD4⟩, hb4⟩
      have HB4 : Hid (Below w.heap.size w w4) := HB3.out.trans hb4
      have HT4 : Hid (∃ O s, Two w.heap.size O w4 p r s) := ⟨O4, _, hD4⟩
      clear hD4 hb4 y0 y1 y2
      go_wp2_with fail
      go_roundw
      case rel => exact ⟨k + 1, by go_num, hkn, HT4, HB4⟩
      case measure => simp [intOf]; omega
    · have hkI : ¬ (k : Int) < (L.length : Int) := by omega
      go_wp2_with fail
      go_ret2
      obtain ⟨O, s, hT⟩ := HTr.out
      exact ⟨p, r, O, s, rfl, hT, HBr.out⟩
end Go.Proofs.YtdfbmfikhccajaaGreatDoor

namespace Go.Proofs.YtdfbmfikhccajaaGreatDoor
open Go.RowKit

theorem pkV_form (s : St) (n : Int) : ∃ x k b, pkV s n = .tuple #[.int .i64 x, .int .i64 k, .bool b] := by
  unfold pkV
  split
  · exact ⟨_, _, _, rfl⟩
  · exact ⟨_, _, _, rfl⟩
theorem Two.tz {w w' : World} (hT : Tz w) (hs : 0 < w.heap.size) (hb : Below w.heap.size w w') : Tz w' := hT.below hb hs

set_option maxRecDepth 10000 in
set_option maxHeartbeats 4000000 in
theorem branchPicks_walk (m : Md.Mo) (vv vc vg : Value) (la : Option Addr) (lc : Nat) (L : List Ct) (n : Int) (w : World) (h : MoAt w m vv vc vg) (hL : ∀ w', Below w.heap.size w w' → CtsAt w' la L) (hT : Tz w) (hs : 0 < w.heap.size) : Calls Tryz.prog 3 #[moVal m vv vc vg, .slice la L.length lc, .int .i64 n] w fun e w' => e = .returned (.bool true) ∧ Below w.heap.size w w' := by
  obtain ⟨W, hW⟩ : ∃ W, w.alloc (.cells #[vv, vc, .bool m.has, vg] 26) = W := ⟨_, rfl⟩
  have hb0 : Below w.heap.size w W := by rw [← hW]; exact (Below.refl _ _).alloc (Nat.le_refl _) _
  have g0 : W.heap[w.heap.size]? = some (.cells #[vv, vc, .bool m.has, vg] 26 (0, 0)) := by rw [← hW]; exact heap_alloc_new w _
  have hlt := (Array.getElem?_eq_some_iff.1 g0).1
  have hsW : 0 < W.heap.size := Nat.lt_of_lt_of_le hs hb0.size
  have HB : Hid (Below w.heap.size w W) := hb0
  have HM : Hid (∀ w', Below W.heap.size W w' → w'.cell? ⟨w.heap.size, 0, none⟩ = some vv ∧ w'.cell? ⟨w.heap.size, 1, none⟩ = some vc ∧ w'.cell? ⟨w.heap.size, 2, none⟩ = some (.bool m.has) ∧ w'.cell? ⟨w.heap.size, 3, none⟩ = some vg) := fun w' hb => by
    have g1 := (hb.block _ hlt).trans g0
    exact ⟨cell_of g1 0, cell_of g1 1, cell_of g1 2, cell_of g1 3⟩
  have HMo : Hid (∀ w', Below W.heap.size W w' → MoAt w' m vv vc vg) := fun w' hb => (h.below hb0).below hb
  have HLC : Hid (∀ w', Below W.heap.size W w' → ∀ w2, Below w'.heap.size w' w2 → CtsAt w2 la L) := fun w' hb w2 hb2 => hL w2 (hb0.trans ((bl_next hb hb2).mono hb0.size))
  have HTz : Hid (∀ w', Below W.heap.size W w' → Tz w') := fun w' hb => (hT.below hb0 hs).below hb hsW
  have HK : Hid (Calls Tryz.prog 5 #[] W fun e w' => e = .returned (.bool true) ∧ Below W.heap.size W w') := known_any W (hT.below hb0 hs) hsW
  clear hb0 g0 hlt h hL hT
  unfold moVal
  go_enter Tryz.func3, Tryz.ntmps3
  go_wp2_with fail
  refine calls_at HK.out (by with_reducible rfl) (by with_reducible rfl) ?_
  rintro e w1 ⟨rfl, hb1⟩
  have HB1 : Hid (Below W.heap.size W w1) := hb1
  obtain ⟨c0, c1, c2, c3⟩ := HM.out w1 hb1
  have HS1 : Hid (Calls Tryz.prog 6 #[.agg #[vv, vc, .bool m.has, vg]] w1 fun e w' => (∃ b, e = .returned (.bool b)) ∧ Below w1.heap.size w1 w') := small_any m vv vc vg w1 (HMo.out w1 hb1)
  clear hb1 hW
  go_wp2_with fail
  refine calls_at HS1.out (by with_reducible rfl) (by with_reducible rfl) ?_
  rintro e w2 ⟨⟨sb, rfl⟩, hb2⟩
  have HB2 : Hid (Below W.heap.size W w2) := bl_next HB1.out hb2
  clear hb2 c0 c1 c2 c3
  cases sb with
  | false =>
    go_wp2_with fail
    go_ret
    exact ⟨rfl, HB.out.trans (HB2.out.mono HB.out.size)⟩
  | true =>
  by_cases hl : L.length ≤ 300
  · have hlI : ¬ (300 : Int) < (L.length : Int) := by omega
    have hlJ : (L.length : Int) ≤ 300 := by omega
    obtain ⟨c0, c1, c2, c3⟩ := HM.out w2 HB2.out
    have HSt : Hid (Calls Tryz.prog 7 #[.agg #[vv, vc, .bool m.has, vg], .slice la L.length lc] w2 (SsOut w2)) := stores_any m vv vc vg la lc L w2 (HMo.out w2 HB2.out) (HLC.out w2 HB2.out) hl (Nat.lt_of_lt_of_le hsW HB2.out.size)
    go_wp2_with fail
    refine calls_at HSt.out (by with_reducible rfl) (by with_reducible rfl) ?_
    rintro e w3 ⟨p, r, O, s, rfl, hT3, hb3⟩
    have HB3 : Hid (Below W.heap.size W w3) := bl_next HB2.out hb3
    have HT3 : Hid (Two w2.heap.size O w3 p r s) := hT3
    obtain ⟨px, pk, pb, hpk⟩ := pkV_form s n
    have HP1 : Hid (Calls Tryz.prog 8 #[.pointer (some ⟨p, 0, none⟩), .int .i64 n] w3 fun e w' => e = .returned (.tuple #[.int .i64 px, .int .i64 pk, .bool pb]) ∧ Below w3.heap.size w3 w') := by
      obtain ⟨nv, mv, S, Bs, q1, _⟩ := hT3.du.ex
      rw [← hpk]
      exact pick_any n q1 hT3.al (HTz.out w3 HB3.out)
    have HP2 : Hid (∀ w', Below w3.heap.size w3 w' → Calls Tryz.prog 9 #[.pointer (some ⟨r, 0, none⟩), .int .i64 n] w' fun e w2 => e = .returned (.tuple #[.int .i64 px, .int .i64 pk, .bool pb]) ∧ Below w'.heap.size w' w2) := fun w' hb => by
      obtain ⟨nv, mv, S, Bs, _, q2, _⟩ := (hT3.du.below hb).ex
      rw [← hpk]
      exact rPick_any n q2 hT3.al
    clear hT3 hb3 hpk c0 c1 c2 c3
    go_wp2_with fail
    refine calls_at HP1.out (by with_reducible rfl) (by with_reducible rfl) ?_
    rintro e w4 ⟨rfl, hb4⟩
    have HB4 : Hid (Below W.heap.size W w4) := bl_next HB3.out hb4
    have HP3 : Hid (Calls Tryz.prog 9 #[.pointer (some ⟨r, 0, none⟩), .int .i64 n] w4 fun e w2 => e = .returned (.tuple #[.int .i64 px, .int .i64 pk, .bool pb]) ∧ Below w4.heap.size w4 w2) := HP2.out w4 hb4
    clear hb4
    go_wp2_with fail
    refine calls_at HP3.out (by with_reducible rfl) (by with_reducible rfl) ?_
    rintro e w5 ⟨rfl, hb5⟩
    have HB5 : Hid (Below W.heap.size W w5) := bl_next HB4.out hb5
    clear hb5
    have hbb : (pb == pb) = true := by simp
    go_wp2_with fail
    go_ret
    exact ⟨rfl, HB.out.trans (HB5.out.mono HB.out.size)⟩
  · have hlI : (300 : Int) < (L.length : Int) := by omega
    go_wp2_with fail
    go_ret
    exact ⟨rfl, HB.out.trans (HB2.out.mono HB.out.size)⟩
end Go.Proofs.YtdfbmfikhccajaaGreatDoor
