/-
  Put together: BrStores, BrPicksW, BrPartsW.
-/
import Derived.Test.YtdfbmfikhccajaaGreatDoorJ48
import Derived.Test.YtdfbmfikhccajaaGreatDoorDtDuo
import Derived.Test.YtdfbmfikhccajaaGreatDoorDmOrdO
import Derived.Test.YtdfbmfikhccajaaGreatDoorJ42
namespace Go.Proofs.YtdfbmfikhccajaaGreatDoor
open Go.RowKit

/-- Both stores, that say the same. -/
structure Two (B : Nat) (O : Nat → Prop) (w : World) (p r : Nat) (s : St) : Prop where
  du : Duo B O w p r s (s.now.map Dm.all) (mksOf s)
  al : Alls s
theorem Two.below {B : Nat} {O : Nat → Prop} {w w' : World} {p r : Nat} {s : St} (h : Two B O w p r s) (hb : Below w.heap.size w w') : Two B O w' p r s := ⟨h.du.below hb, h.al⟩
/-- A cut of both. -/
theorem Two.cut1 {B : Nat} {O : Nat → Prop} {w : World} {p r : Nat} {s : St} (h : Two B O w p r s) (k x v : Int) : Calls Tryz.prog 12 #[.pointer (some ⟨p, 0, none⟩), .agg #[.int .i64 k, .int .i64 x, .int .i64 v]] w fun e w' => (∃ u, e = .returned u) ∧ (∃ O', Duo B O' w' p r (s.cut k x v) (s.now.map Dm.all) (mksOf s)) ∧ Below B w w' :=
  (h.du.cut1 k x v).mono fun e w' hq => by
    obtain ⟨q1, O', q2, q3, q4⟩ := hq
    exact ⟨⟨_, q1⟩, ⟨O', q2⟩, q3.below⟩
theorem two_cut2 {B : Nat} {O : Nat → Prop} {w : World} {p r : Nat} {s : St} (ha : Alls s) (k x v : Int) (h : Duo B O w p r (s.cut k x v) (s.now.map Dm.all) (mksOf s)) : Calls Tryz.prog 22 #[.pointer (some ⟨r, 0, none⟩), .agg #[.int .i64 k, .int .i64 x, .int .i64 v]] w fun e w' => (∃ u, e = .returned u) ∧ (∃ O', Two B O' w' p r (s.cut k x v)) ∧ Below B w w' :=
  (h.cut2 k x v).mono fun e w' hq => by
    obtain ⟨q1, O', q2, q3, q4⟩ := hq
    obtain ⟨e1, _, _⟩ := cut_rel ha k x v
    rw [← e1, ← cut_mks s k x v] at q2
    exact ⟨⟨_, q1⟩, ⟨O', q2, alls_cut ha k x v⟩, q3.below⟩
/-- What stores leaves. -/
def SsOut (w : World) (e : Ending) (w' : World) : Prop := ∃ p r O s, e = .returned (.tuple #[.pointer (some ⟨p, 0, none⟩), .pointer (some ⟨r, 0, none⟩)]) ∧ Two w.heap.size O w' p r s ∧ Below w.heap.size w w'

set_option maxRecDepth 10000 in
set_option maxHeartbeats 1000000 in
theorem stores_any (m : Md.Mo) (vv vc vg : Value) (la : Option Addr) (lc : Nat) (L : List Ct) (w : World) (h : MoAt w m vv vc vg) (hL : ∀ w', Below w.heap.size w w' → CtsAt w' la L) (hl : L.length ≤ 300) (hs : 0 < w.heap.size) : Calls Tryz.prog 7 #[moVal m vv vc vg, .slice la L.length lc] w (SsOut w) := by
  obtain ⟨W, hW⟩ : ∃ W, w.alloc (.cells #[vv, vc, .bool m.has, vg] 26) = W := ⟨_, rfl⟩
  have hb0 : Below w.heap.size w W := by rw [← hW]; exact (Below.refl _ _).alloc (Nat.le_refl _) _
  have g0 : W.heap[w.heap.size]? = some (.cells #[vv, vc, .bool m.has, vg] 26 (0, 0)) := by rw [← hW]; exact heap_alloc_new w _
  have hlt := (Array.getElem?_eq_some_iff.1 g0).1
  have HB : Hid (Below w.heap.size w W) := hb0
  have hsW : 0 < W.heap.size := Nat.lt_of_lt_of_le hs hb0.size
  have HLC : Hid (∀ w', Below w.heap.size w w' → CtsAt w' la L) := hL
  have HM : Hid (∀ w', Below W.heap.size W w' → w'.cell? ⟨w.heap.size, 0, none⟩ = some vv ∧ w'.cell? ⟨w.heap.size, 1, none⟩ = some vc ∧ w'.cell? ⟨w.heap.size, 2, none⟩ = some (.bool m.has) ∧ w'.cell? ⟨w.heap.size, 3, none⟩ = some vg) := fun w' hb => by
    have g1 := (hb.block _ hlt).trans g0
    exact ⟨cell_of g1 0, cell_of g1 1, cell_of g1 2, cell_of g1 3⟩
  have HNw : Hid (∀ (w' : World), Below W.heap.size W w' → Calls Tryz.prog 18 #[.agg #[vv, vc, .bool m.has, vg]] w' (NewOut m w')) := fun w' hb => new_any m vv vc vg w' ((h.below hb0).below hb) (Nat.lt_of_lt_of_le hsW hb.size)
  have HRn : Hid (∀ (w' : World), Below W.heap.size W w' → Calls Tryz.prog 21 #[.agg #[vv, vc, .bool m.has, vg]] w' (RnOut m w')) := fun w' hb => rNew_any m vv vc vg w' ((h.below hb0).below hb)
  obtain ⟨c0, c1, c2, c3⟩ := HM.out W (Below.refl _ _)
  clear hb0 g0 hlt h hL
  unfold moVal
  go_enter Tryz.func7, Tryz.ntmps7
  go_wp2_with fail
  have HS : Hid (∀ w', Below W.heap.size W w' → w'.cell? ⟨w.heap.size, 0, none⟩ = some vv ∧ w'.cell? ⟨w.heap.size, 1, none⟩ = some vc ∧ w'.cell? ⟨w.heap.size, 2, none⟩ = some (.bool m.has) ∧ w'.cell? ⟨w.heap.size, 3, none⟩ = some vg ∧ Below W.heap.size W w') := fun w' hb => by
    obtain ⟨y0, y1, y2, y3⟩ := HM.out w' hb
    exact ⟨y0, y1, y2, y3, hb⟩
  go_region_held3 (fun w' => w'.cell? ⟨w.heap.size, 0, none⟩ = some vv ∧ w'.cell? ⟨w.heap.size, 1, none⟩ = some vc ∧ w'.cell? ⟨w.heap.size, 2, none⟩ = some (.bool m.has) ∧ w'.cell? ⟨w.heap.size, 3, none⟩ = some vg ∧ Below W.heap.size W w')
    (first | exact HS.out _ (Below.refl _ _).drew | exact HS.out _ (bl_next (And.right (And.right (And.right (And.right (by assumption))))) (by assumption)) | assumption)
    (first
      | (go_at_call 18; refine calls_at (HNw.out W.drew (Below.refl _ _).drew) (by with_reducible rfl) (by with_reducible rfl) ?_; rintro e w1 ⟨p, nv, mv, rfl, hA1, hb1⟩; (have HA1 : Hid (StAt W.heap.size w1 p nv mv (newS m)) := hA1); clear hA1)
      | (go_at_call 21; refine calls_at (HRn.out w1 (And.right (And.right (And.right (And.right (by assumption)))))) (by with_reducible rfl) (by with_reducible rfl) ?_; rintro e w2 ⟨r, S, rfl, hR2, hb2⟩; (have HR2 : Hid (RsAt w1.heap.size S w2 r (newLL m) [] ∧ Below w1.heap.size w1 w2) := ⟨hR2, hb2⟩); (have HB1 : Hid (Below W.heap.size W w1) := And.right (And.right (And.right (And.right (by assumption))))); clear hR2))
  have hT : ∃ O, Two w.heap.size O w2 p r (newS m) := by
    obtain ⟨e1, e2, e3⟩ := new_rel m
    have hwW := HB.out.size
    have hW1 := HB1.out.size
    have h12 := HR2.out.2.size
    refine ⟨fun k => w.heap.size ≤ k ∧ k < w2.heap.size, ⟨⟨nv, mv, S, W.heap.size, HA1.out.below HR2.out.2, ?_, hwW, fun k hk => ?_, fun k hk => ?_, fun k hk hS => ?_⟩, fun k hk => hk.1, fun k hk => hk.2⟩, alls_new m⟩
    · rw [e1, e2]
      have := HR2.out.1
      exact { this with lo := fun k hk => by have := this.lo k hk; omega }
    · have a1 := own_lo HA1.out hk
      have a2 := own_lt HA1.out hk
      exact ⟨by omega, by omega⟩
    · have a1 := HR2.out.1.lo k hk
      have a2 := HR2.out.1.lt k hk
      exact ⟨by omega, by omega⟩
    · have a1 := HR2.out.1.lo k hS
      have a2 := own_lt HA1.out hk
      omega
  have HB2 : Hid (Below W.heap.size W w2) := bl_next HB1.out HR2.out.2
  have HT2 : Hid (∃ O, Two w.heap.size O w2 p r (newS m)) := hT
  have HBw : Hid (Below w.heap.size w w2) := HB.out.trans (HB2.out.mono HB.out.size)
  clear hT HA1 HR2 HB1 hb2
  go_wp2_with fail
  go_loopw [8] (fun iv wr => ∃ k : Nat, iv = .int .i64 (k : Int) ∧ k ≤ L.length ∧ Hid (∃ O s, Two w.heap.size O wr p r s) ∧ Hid (Below w.heap.size w wr)) (fun iv _ => L.length - (intOf iv).toNat)
  case atStart =>
    obtain ⟨O, hO⟩ := HT2.out
    exact ⟨0, rfl, Nat.zero_le _, ⟨O, _, hO⟩, HBw⟩
  case round =>
    obtain ⟨k, rfl, hk, HTr, HBr⟩ := hrel
    by_cases hkn : k < L.length
    · have hkI : (k : Int) < (L.length : Int) := by omega
      obtain ⟨O, s, hT⟩ := HTr.out
      obtain ⟨b, off, rfl, x0, x1, x2⟩ := HLC.out wr HBr.out k hkn
      obtain ⟨ck, hck⟩ : ∃ z, L[k].k = z := ⟨_, rfl⟩
      obtain ⟨cx, hcx⟩ : ∃ z, L[k].x = z := ⟨_, rfl⟩
      obtain ⟨cv, hcv⟩ : ∃ z, L[k].v = z := ⟨_, rfl⟩
      have HX : Hid (∀ w', Below w.heap.size w w' → w'.cell? ⟨b, off + k * 3, none⟩ = some (.int .i64 ck) ∧ w'.cell? ⟨b, off + k * 3 + 1, none⟩ = some (.int .i64 cx) ∧ w'.cell? ⟨b, off + k * 3 + 2, none⟩ = some (.int .i64 cv)) := fun w' hb => by
        obtain ⟨b', off', e, y0, y1, y2⟩ := HLC.out w' hb k hkn
        injection e with e
        injection e with e1 e2
        subst e1 e2
        rw [hck] at y0; rw [hcx] at y1; rw [hcv] at y2
        exact ⟨y0, y1, y2⟩
      rw [hck] at x0
      rw [hcx] at x1
      rw [hcv] at x2
      have HC1 : Hid (Calls Tryz.prog 12 #[.pointer (some ⟨p, 0, none⟩), .agg #[.int .i64 ck, .int .i64 cx, .int .i64 cv]] wr fun e w' => (∃ u, e = .returned u) ∧ (∃ O', Duo w.heap.size O' w' p r (s.cut ck cx cv) (s.now.map Dm.all) (mksOf s)) ∧ Below w.heap.size wr w') := hT.cut1 ck cx cv
      have HAl : Hid (Alls s) := hT.al
      clear hT HTr hck hcx hcv
      go_wp2_with fail
      refine calls_at HC1.out (by with_reducible rfl) (by with_reducible rfl) ?_
      rintro e w3 ⟨⟨u, rfl⟩, ⟨O', hD3⟩, hb3⟩
      have HB3 : Hid (Below w.heap.size w w3) := HBr.out.trans hb3
      have HC2 : Hid (Calls Tryz.prog 22 #[.pointer (some ⟨r, 0, none⟩), .agg #[.int .i64 ck, .int .i64 cx, .int .i64 cv]] w3 fun e w' => (∃ u, e = .returned u) ∧ (∃ O', Two w.heap.size O' w' p r (s.cut ck cx cv)) ∧ Below w.heap.size w3 w') := two_cut2 HAl.out ck cx cv hD3
      obtain ⟨y0, y1, y2⟩ := HX.out w3 HB3.out
      clear hD3 hb3 x0 x1 x2
      go_wp2_with fail
      refine calls_at HC2.out (by with_reducible rfl) (by with_reducible rfl) ?_
      rintro e w4 ⟨⟨u4, rfl⟩, ⟨O4, hD4⟩, hb4⟩
      have HB4 : Hid (Below w.heap.size w w4) := HB3.out.trans hb4
      have HT4 : Hid (∃ O s, Two w.heap.size O w4 p r s) := ⟨O4, _, hD4⟩
      clear hD4 hb4 y0 y1 y2
      go_wp2_with fail
      go_roundw
      case rel => exact ⟨k + 1, by go_num, hkn, HT4, HB4⟩
      case measure => simp [intOf]; omega
    · have hkI : ¬ (k : Int) < (L.length : Int) := by omega
      go_wp2_with fail
      go_ret2
      obtain ⟨O, s, hT⟩ := HTr.out
      exact ⟨p, r, O, s, rfl, hT, HBr.out⟩
end Go.Proofs.YtdfbmfikhccajaaGreatDoor

namespace Go.Proofs.YtdfbmfikhccajaaGreatDoor
open Go.RowKit

theorem pkV_form (s : St) (n : Int) : ∃ x k b, pkV s n = .tuple #[.int .i64 x, .int .i64 k, .bool b] := by
  unfold pkV
  split
  · exact ⟨_, _, _, rfl⟩
  · exact ⟨_, _, _, rfl⟩
theorem Two.tz {w w' : World} (hT : Tz w) (hs : 0 < w.heap.size) (hb : Below w.heap.size w w') : Tz w' := hT.below hb hs

set_option maxRecDepth 10000 in
set_option maxHeartbeats 4000000 in
theorem branchPicks_walk (m : Md.Mo) (vv vc vg : Value) (la : Option Addr) (lc : Nat) (L : List Ct) (n : Int) (w : World) (h : MoAt w m vv vc vg) (hL : ∀ w', Below w.heap.size w w' → CtsAt w' la L) (hT : Tz w) (hs : 0 < w.heap.size) : Calls Tryz.prog 3 #[moVal m vv vc vg, .slice la L.length lc, .int .i64 n] w fun e w' => e = .returned (.bool true) ∧ Below w.heap.size w w' := by
  obtain ⟨W, hW⟩ : ∃ W, w.alloc (.cells #[vv, vc, .bool m.has, vg] 26) = W := ⟨_, rfl⟩
  have hb0 : Below w.heap.size w W := by rw [← hW]; exact (Below.refl _ _).alloc (Nat.le_refl _) _
  have g0 : W.heap[w.heap.size]? = some (.cells #[vv, vc, .bool m.has, vg] 26 (0, 0)) := by rw [← hW]; exact heap_alloc_new w _
  have hlt := (Array.getElem?_eq_some_iff.1 g0).1
  have hsW : 0 < W.heap.size := Nat.lt_of_lt_of_le hs hb0.size
  have HB : Hid (Below w.heap.size w W) := hb0
  have HM : Hid (∀ w', Below W.heap.size W w' → w'.cell? ⟨w.heap.size, 0, none⟩ = some vv ∧ w'.cell? ⟨w.heap.size, 1, none⟩ = some vc ∧ w'.cell? ⟨w.heap.size, 2, none⟩ = some (.bool m.has) ∧ w'.cell? ⟨w.heap.size, 3, none⟩ = some vg) := fun w' hb => by
    have g1 := (hb.block _ hlt).trans g0
    exact ⟨cell_of g1 0, cell_of g1 1, cell_of g1 2, cell_of g1 3⟩
  have HMo : Hid (∀ w', Below W.heap.size W w' → MoAt w' m vv vc vg) := fun w' hb => (h.below hb0).below hb
  have HLC : Hid (∀ w', Below W.heap.size W w' → ∀ w2, Below w'.heap.size w' w2 → CtsAt w2 la L) := fun w' hb w2 hb2 => hL w2 (hb0.trans ((bl_next hb hb2).mono hb0.size))
  have HTz : Hid (∀ w', Below W.heap.size W w' → Tz w') := fun w' hb => (hT.below hb0 hs).below hb hsW
  have HK : Hid (Calls Tryz.prog 5 #[] W fun e w' => e = .returned (.bool true) ∧ Below W.heap.size W w') := known_any W (hT.below hb0 hs) hsW
  clear hb0 g0 hlt h hL hT
  unfold moVal
  go_enter Tryz.func3, Tryz.ntmps3
  go_wp2_with fail
  refine calls_at HK.out (by with_reducible rfl) (by with_reducible rfl) ?_
  rintro e w1 ⟨rfl, hb1⟩
  have HB1 : Hid (Below W.heap.size W w1) := hb1
  obtain ⟨c0, c1, c2, c3⟩ := HM.out w1 hb1
  have HS1 : Hid (Calls Tryz.prog 6 #[.agg #[vv, vc, .bool m.has, vg]] w1 fun e w' => (∃ b, e = .returned (.bool b)) ∧ Below w1.heap.size w1 w') := small_any m vv vc vg w1 (HMo.out w1 hb1)
  clear hb1 hW
  go_wp2_with fail
  refine calls_at HS1.out (by with_reducible rfl) (by with_reducible rfl) ?_
  rintro e w2 ⟨⟨sb, rfl⟩, hb2⟩
  have HB2 : Hid (Below W.heap.size W w2) := bl_next HB1.out hb2
  clear hb2 c0 c1 c2 c3
  cases sb with
  | false =>
    go_wp2_with fail
    go_ret
    exact ⟨rfl, HB.out.trans (HB2.out.mono HB.out.size)⟩
  | true =>
  by_cases hl : L.length ≤ 300
  · have hlI : ¬ (300 : Int) < (L.length : Int) := by omega
    have hlJ : (L.length : Int) ≤ 300 := by omega
    obtain ⟨c0, c1, c2, c3⟩ := HM.out w2 HB2.out
    have HSt : Hid (Calls Tryz.prog 7 #[.agg #[vv, vc, .bool m.has, vg], .slice la L.length lc] w2 (SsOut w2)) := stores_any m vv vc vg la lc L w2 (HMo.out w2 HB2.out) (HLC.out w2 HB2.out) hl (Nat.lt_of_lt_of_le hsW HB2.out.size)
    go_wp2_with fail
    refine calls_at HSt.out (by with_reducible rfl) (by with_reducible rfl) ?_
    rintro e w3 ⟨p, r, O, s, rfl, hT3, hb3⟩
    have HB3 : Hid (Below W.heap.size W w3) := bl_next HB2.out hb3
    have HT3 : Hid (Two w2.heap.size O w3 p r s) := hT3
    obtain ⟨px, pk, pb, hpk⟩ := pkV_form s n
    have HP1 : Hid (Calls Tryz.prog 8 #[.pointer (some ⟨p, 0, none⟩), .int .i64 n] w3 fun e w' => e = .returned (.tuple #[.int .i64 px, .int .i64 pk, .bool pb]) ∧ Below w3.heap.size w3 w') := by
      obtain ⟨nv, mv, S, Bs, q1, _⟩ := hT3.du.ex
      rw [← hpk]
      exact pick_any n q1 hT3.al (HTz.out w3 HB3.out)
    have HP2 : Hid (∀ w', Below w3.heap.size w3 w' → Calls Tryz.prog 9 #[.pointer (some ⟨r, 0, none⟩), .int .i64 n] w' fun e w2 => e = .returned (.tuple #[.int .i64 px, .int .i64 pk, .bool pb]) ∧ Below w'.heap.size w' w2) := fun w' hb => by
      obtain ⟨nv, mv, S, Bs, _, q2, _⟩ := (hT3.du.below hb).ex
      rw [← hpk]
      exact rPick_any n q2 hT3.al
    clear hT3 hb3 hpk c0 c1 c2 c3
    go_wp2_with fail
    refine calls_at HP1.out (by with_reducible rfl) (by with_reducible rfl) ?_
    rintro e w4 ⟨rfl, hb4⟩
    have HB4 : Hid (Below W.heap.size W w4) := bl_next HB3.out hb4
    have HP3 : Hid (Calls Tryz.prog 9 #[.pointer (some ⟨r, 0, none⟩), .int .i64 n] w4 fun e w2 => e = .returned (.tuple #[.int .i64 px, .int .i64 pk, .bool pb]) ∧ Below w4.heap.size w4 w2) := HP2.out w4 hb4
    clear hb4
    go_wp2_with fail
    refine calls_at HP3.out (by with_reducible rfl) (by with_reducible rfl) ?_
    rintro e w5 ⟨rfl, hb5⟩
    have HB5 : Hid (Below W.heap.size W w5) := bl_next HB4.out hb5
    clear hb5
    have hbb : (pb == pb) = true := by simp
    go_wp2_with fail
    go_ret
    exact ⟨rfl, HB.out.trans (HB5.out.mono HB.out.size)⟩
  · have hlI : (300 : Int) < (L.length : Int) := by omega
    go_wp2_with fail
    go_ret
    exact ⟨rfl, HB.out.trans (HB2.out.mono HB.out.size)⟩
end Go.Proofs.YtdfbmfikhccajaaGreatDoor

namespace Go.Proofs.YtdfbmfikhccajaaGreatDoor
open Go.RowKit

/-- Three stores in memory. -/
structure Tr3 (w : World) (p pa pb : Nat) (s a b : St) : Prop where
  s : ∃ B nv mv, StAt B w p nv mv s
  a : ∃ B nv mv, StAt B w pa nv mv a
  b : ∃ B nv mv, StAt B w pb nv mv b
theorem Tr3.below {w w' : World} {p pa pb : Nat} {s a b : St} (h : Tr3 w p pa pb s a b) (hb : Below w.heap.size w w') : Tr3 w' p pa pb s a b := by
  obtain ⟨B1, n1, m1, h1⟩ := h.s
  obtain ⟨B2, n2, m2, h2⟩ := h.a
  obtain ⟨B3, n3, m3, h3⟩ := h.b
  exact ⟨⟨_, _, _, h1.below hb⟩, ⟨_, _, _, h2.below hb⟩, ⟨_, _, _, h3.below hb⟩⟩
theorem size_at {w : World} {p : Nat} {s : St} {x : Nat} (hx : x < s.now.length) (h : ∃ B nv mv, StAt B w p nv mv s) : Calls Tryz.prog 13 #[.pointer (some ⟨p, 0, none⟩), .int .i64 (x : Int)] w fun e w' => e = .returned (.int .i64 s.now[x].size) ∧ Below w.heap.size w w' := by
  obtain ⟨B, nv, mv, h⟩ := h
  exact size_in B p nv mv s x hx w h
theorem has_at {w : World} {p : Nat} {s : St} {x : Nat} (v : Int) (hx : x < s.now.length) (h : ∃ B nv mv, StAt B w p nv mv s) : Calls Tryz.prog 15 #[.pointer (some ⟨p, 0, none⟩), .int .i64 (x : Int), .int .i64 v] w fun e w' => e = .returned (.bool (s.now[x].has v)) ∧ Below w.heap.size w w' := by
  obtain ⟨B, nv, mv, h⟩ := h
  exact has_in B p nv mv s x hx v w h
/-- What both parts are asked. -/
structure PtAsk (w : World) (p pa pb : Nat) (x : Int) (za zb zs : Int) (V : List Int) (hv : Int → Bool) : Prop where
  sa : Calls Tryz.prog 13 #[.pointer (some ⟨pa, 0, none⟩), .int .i64 x] w fun e w' => e = .returned (.int .i64 za) ∧ Below w.heap.size w w'
  sb : Calls Tryz.prog 13 #[.pointer (some ⟨pb, 0, none⟩), .int .i64 x] w fun e w' => e = .returned (.int .i64 zb) ∧ Below w.heap.size w w'
  ss : Calls Tryz.prog 13 #[.pointer (some ⟨p, 0, none⟩), .int .i64 x] w fun e w' => e = .returned (.int .i64 zs) ∧ Below w.heap.size w w'
  vs : Calls Tryz.prog 14 #[.pointer (some ⟨p, 0, none⟩), .int .i64 x] w (VsOut V w)
  ha : ∀ v ∈ V, Calls Tryz.prog 15 #[.pointer (some ⟨pa, 0, none⟩), .int .i64 x, .int .i64 v] w fun e w' => e = .returned (.bool (hv v)) ∧ Below w.heap.size w w'
  hb : ∀ v ∈ V, Calls Tryz.prog 15 #[.pointer (some ⟨pb, 0, none⟩), .int .i64 x, .int .i64 v] w fun e w' => e = .returned (.bool (!hv v)) ∧ Below w.heap.size w w'
theorem ask_of {s a b : St} {x : Nat} (h : Parts s a b x) : ∃ za zb zs V hv, za + zb = zs ∧ 1 ≤ za ∧ 1 ≤ zb ∧ zs ≤ 64 ∧ V.length ≤ 100 ∧ ∀ (w : World) (p pa pb : Nat), Tr3 w p pa pb s a b → Tz w → Alls s → PtAsk w p pa pb (x : Int) za zb zs V hv := by
  obtain ⟨hx, hA, hB, e1, e2, e3, e4, e5⟩ := h.ex
  refine ⟨_, _, _, s.now[x].all.take 100, a.now[x].has, e1, e2, e3, e4, by simp; omega, fun w p pa pb hT hz ha => ?_⟩
  obtain ⟨ho, hA'⟩ := ha _ (List.getElem_mem hx)
  have hl := all_len64 ho hA'
  rw [List.take_of_length_le (by omega)]
  refine ⟨size_at hA hT.a, size_at hB hT.b, size_at hx hT.s, ?_, fun v hv => has_at v hA hT.a, fun v hv => ?_⟩
  · obtain ⟨B, nv, mv, h⟩ := hT.s
    exact values_in B p nv mv s x hx w h hz
  · have := has_at v hB hT.b
    rw [e5 v hv, Bool.not_not]
    exact this
/-- Copies, and a part cut out of each. -/
theorem two_copies {w : World} {p : Nat} {s : St} (h : ∃ B nv mv, StAt B w p nv mv s) : Calls Tryz.prog 11 #[.pointer (some ⟨p, 0, none⟩)] w (CopyOut s w) := by
  obtain ⟨B, nv, mv, h⟩ := h
  exact copy_any B p nv mv s w h
/-- A store and its copies, each behind the one ahead. -/
structure Cp3 (w : World) (p pa pb : Nat) (s a b : St) (n1 n2 : Nat) : Prop where
  s : ∃ B nv mv, StAt B w p nv mv s ∧ ∀ j, Own p nv mv j → j < n1
  a : ∃ nv mv, StAt n1 w pa nv mv a ∧ ∀ j, Own pa nv mv j → j < n2
  b : ∃ nv mv, StAt n2 w pb nv mv b
  le : n1 ≤ n2
theorem Cp3.three {w : World} {p pa pb n1 n2 : Nat} {s a b : St} (h : Cp3 w p pa pb s a b n1 n2) : Tr3 w p pa pb s a b := by
  obtain ⟨B, nv, mv, h1, _⟩ := h.s
  obtain ⟨nv2, mv2, h2, _⟩ := h.a
  obtain ⟨nv3, mv3, h3⟩ := h.b
  exact ⟨⟨_, _, _, h1⟩, ⟨_, _, _, h2⟩, ⟨_, _, _, h3⟩⟩
theorem Cp3.cutA {w : World} {p pa pb n1 n2 : Nat} {s a b : St} (h : Cp3 w p pa pb s a b n1 n2) (k x v : Int) : Calls Tryz.prog 12 #[.pointer (some ⟨pa, 0, none⟩), .agg #[.int .i64 k, .int .i64 x, .int .i64 v]] w fun e w' => e = .returned (.tuple #[.bool (a.went k x v), .bool (a.may k x v)]) ∧ Cp3 w' p pa pb s (a.cut k x v) b n1 n2 ∧ Below n1 w w' := by
  obtain ⟨B, nv, mv, h1, h1'⟩ := h.s
  obtain ⟨nv2, mv2, h2, h2'⟩ := h.a
  obtain ⟨nv3, mv3, h3⟩ := h.b
  have hle := h.le
  refine (cut_any n1 pa nv2 mv2 a k x v w h2).mono fun e w' hq => ⟨hq.1, ⟨⟨B, nv, mv, h1.keep fun j hj ho => hq.2.2.off.block j hj fun e => ?_, h1'⟩, ⟨nv2, mv2, hq.2.1, h2'⟩, ⟨nv3, mv3, h3.keep fun j hj ho => hq.2.2.off.block j hj fun e => ?_⟩, hle⟩, hq.2.2.below⟩
  · have := h1' j ho
    have := own_lo h2 e
    omega
  · have := h2' j e
    have := own_lo h3 ho
    omega
theorem Cp3.cutB {w : World} {p pa pb n1 n2 : Nat} {s a b : St} (h : Cp3 w p pa pb s a b n1 n2) (k x v : Int) : Calls Tryz.prog 12 #[.pointer (some ⟨pb, 0, none⟩), .agg #[.int .i64 k, .int .i64 x, .int .i64 v]] w fun e w' => e = .returned (.tuple #[.bool (b.went k x v), .bool (b.may k x v)]) ∧ Cp3 w' p pa pb s a (b.cut k x v) n1 n2 ∧ Below n1 w w' := by
  obtain ⟨B, nv, mv, h1, h1'⟩ := h.s
  obtain ⟨nv2, mv2, h2, h2'⟩ := h.a
  obtain ⟨nv3, mv3, h3⟩ := h.b
  have hle := h.le
  refine (cut_any n2 pb nv3 mv3 b k x v w h3).mono fun e w' hq => ⟨hq.1, ⟨⟨B, nv, mv, h1.keep fun j hj ho => hq.2.2.off.block j hj fun e => ?_, h1'⟩, ⟨nv2, mv2, h2.keep fun j hj ho => hq.2.2.off.block j hj fun e => ?_, h2'⟩, ⟨nv3, mv3, hq.2.1⟩, hle⟩, hq.2.2.below.mono hle⟩
  · have := h1' j ho
    have := own_lo h3 e
    omega
  · have := h2' j ho
    have := own_lo h3 e
    omega

theorem turn_at (t b : Int) (h0 : 0 < b) (h1 : b ≤ 1000000000000) : ∃ k, (wrap64 (t.tmod b + b)).tmod b = k ∧ 0 ≤ k ∧ k < b := by
  have a1 : t.tmod b < b := Int.tmod_lt_of_pos _ h0
  have a2 : -b < t.tmod b := Int.lt_tmod_of_pos _ h0
  have hw : wrap64 (t.tmod b + b) = t.tmod b + b := by unfold wrap64; omega
  rw [hw]
  have b0 : 0 ≤ t.tmod b + b := by omega
  exact ⟨_, rfl, Int.tmod_nonneg b b0, Int.tmod_lt_of_pos _ h0⟩
/-- Every split comes of some number. -/
theorem pk_turn {s : St} {i y : Nat} (hi : i < (openL s.now s.now.length).length) (hy : y < s.now.length) (hF : (openL s.now s.now.length)[i] = (y : Int)) {j : Int} (h0 : 0 ≤ j) (h1 : j < s.now[y].hi - s.now[y].lo) (h2 : j ≤ 1000000000000) : pkV s ((i : Int) + ((openL s.now s.now.length).length : Int) * j) = .tuple #[.int .i64 (y : Int), .int .i64 (s.now[y].lo + 1 + j), .bool true] := by
  obtain ⟨e1, e2⟩ := dv_of (i := (i : Int)) (j := j) (b := ((openL s.now s.now.length).length : Int)) (by omega) (by omega) h0 h2
  obtain ⟨e3, _⟩ := dv_of (i := j) (j := 0) (b := s.now[y].hi - s.now[y].lo) h0 h1 (Int.le_refl _) (by omega)
  rw [Int.mul_zero, Int.add_zero] at e3
  have eX : pkX s ((i : Int) + ((openL s.now s.now.length).length : Int) * j) = (y : Int) := by
    unfold pkX
    rw [e1, Int.toNat_natCast, List.getD_eq_getElem?_getD, List.getElem?_eq_getElem hi, hF]
    rfl
  have eK : pkK s ((i : Int) + ((openL s.now s.now.length).length : Int) * j) = s.now[y].lo + 1 + j := by
    unfold pkK
    rw [eX, Int.toNat_natCast, List.getElem?_eq_getElem hy, e2]
    show s.now[y].lo + 1 + dvR j (s.now[y].hi - s.now[y].lo) = _
    rw [e3]
  unfold pkV
  rw [if_neg (by omega), eX, eK]
theorem lo_at {w : World} {p : Nat} {s : St} {x : Nat} (hx : x < s.now.length) (h : ∃ B nv mv, StAt B w p nv mv s) (hT : Tz w) : Calls Tryz.prog 17 #[.pointer (some ⟨p, 0, none⟩), .int .i64 (x : Int)] w fun e w' => e = .returned (.int .i64 s.now[x].lo) ∧ Below w.heap.size w w' := by
  obtain ⟨B, nv, mv, h⟩ := h
  exact lo_in B p nv mv s x hx w h hT
theorem hi_at {w : World} {p : Nat} {s : St} {x : Nat} (hx : x < s.now.length) (h : ∃ B nv mv, StAt B w p nv mv s) : Calls Tryz.prog 16 #[.pointer (some ⟨p, 0, none⟩), .int .i64 (x : Int)] w fun e w' => e = .returned (.int .i64 s.now[x].hi) ∧ Below w.heap.size w w' := by
  obtain ⟨B, nv, mv, h⟩ := h
  exact hi_in B p nv mv s x hx w h
theorem pick_st {w : World} {p : Nat} {s : St} (n : Int) (h : ∃ B nv mv, StAt B w p nv mv s) (ha : Alls s) (hT : Tz w) : Calls Tryz.prog 8 #[.pointer (some ⟨p, 0, none⟩), .int .i64 n] w fun e w' => e = .returned (pkV s n) ∧ Below w.heap.size w w' := by
  obtain ⟨B, nv, mv, h⟩ := h
  exact pick_any n h ha hT

set_option maxRecDepth 10000 in
set_option maxHeartbeats 4000000 in
theorem branchParts_walk (m : Md.Mo) (vv vc vg : Value) (la : Option Addr) (lc : Nat) (L : List Ct) (n which at' : Int) (w : World) (h : MoAt w m vv vc vg) (hL : ∀ w', Below w.heap.size w w' → CtsAt w' la L) (hT : Tz w) (hs : 0 < w.heap.size) : Calls Tryz.prog 4 #[moVal m vv vc vg, .slice la L.length lc, .int .i64 n, .int .i64 which, .int .i64 at'] w fun e w' => e = .returned (.bool true) ∧ Below w.heap.size w w' := by
  obtain ⟨W, hW⟩ : ∃ W, w.alloc (.cells #[vv, vc, .bool m.has, vg] 26) = W := ⟨_, rfl⟩
  have hb0 : Below w.heap.size w W := by rw [← hW]; exact (Below.refl _ _).alloc (Nat.le_refl _) _
  have g0 : W.heap[w.heap.size]? = some (.cells #[vv, vc, .bool m.has, vg] 26 (0, 0)) := by rw [← hW]; exact heap_alloc_new w _
  have hlt := (Array.getElem?_eq_some_iff.1 g0).1
  have hsW : 0 < W.heap.size := Nat.lt_of_lt_of_le hs hb0.size
  have HB : Hid (Below w.heap.size w W) := hb0
  have HM : Hid (∀ w', Below W.heap.size W w' → w'.cell? ⟨w.heap.size, 0, none⟩ = some vv ∧ w'.cell? ⟨w.heap.size, 1, none⟩ = some vc ∧ w'.cell? ⟨w.heap.size, 2, none⟩ = some (.bool m.has) ∧ w'.cell? ⟨w.heap.size, 3, none⟩ = some vg) := fun w' hb => by
    have g1 := (hb.block _ hlt).trans g0
    exact ⟨cell_of g1 0, cell_of g1 1, cell_of g1 2, cell_of g1 3⟩
  have HMo : Hid (∀ w', Below W.heap.size W w' → MoAt w' m vv vc vg) := fun w' hb => (h.below hb0).below hb
  have HLC : Hid (∀ w', Below W.heap.size W w' → ∀ w2, Below w'.heap.size w' w2 → CtsAt w2 la L) := fun w' hb w2 hb2 => hL w2 (hb0.trans ((bl_next hb hb2).mono hb0.size))
  have HTz : Hid (∀ w', Below W.heap.size W w' → Tz w') := fun w' hb => (hT.below hb0 hs).below hb hsW
  have HK : Hid (Calls Tryz.prog 5 #[] W fun e w' => e = .returned (.bool true) ∧ Below W.heap.size W w') := known_any W (hT.below hb0 hs) hsW
  clear hb0 g0 hlt h hL hT
  unfold moVal
  go_enter Tryz.func4, Tryz.ntmps4
  go_wp2_with fail
  refine calls_at HK.out (by with_reducible rfl) (by with_reducible rfl) ?_
  rintro e w1 ⟨rfl, hb1⟩
  have HB1 : Hid (Below W.heap.size W w1) := hb1
  obtain ⟨c0, c1, c2, c3⟩ := HM.out w1 hb1
  have HS1 : Hid (Calls Tryz.prog 6 #[.agg #[vv, vc, .bool m.has, vg]] w1 fun e w' => (∃ b, e = .returned (.bool b)) ∧ Below w1.heap.size w1 w') := small_any m vv vc vg w1 (HMo.out w1 hb1)
  clear hb1 hW
  go_wp2_with fail
  refine calls_at HS1.out (by with_reducible rfl) (by with_reducible rfl) ?_
  rintro e w2 ⟨⟨sb, rfl⟩, hb2⟩
  have HB2 : Hid (Below W.heap.size W w2) := bl_next HB1.out hb2
  clear hb2 c0 c1 c2 c3
  cases sb with
  | false =>
    go_wp2_with fail
    go_ret
    exact ⟨rfl, HB.out.trans (HB2.out.mono HB.out.size)⟩
  | true =>
  by_cases hl : L.length ≤ 300
  · have hlI : ¬ (300 : Int) < (L.length : Int) := by omega
    have hlJ : (L.length : Int) ≤ 300 := by omega
    obtain ⟨c0, c1, c2, c3⟩ := HM.out w2 HB2.out
    have HSt : Hid (Calls Tryz.prog 7 #[.agg #[vv, vc, .bool m.has, vg], .slice la L.length lc] w2 (SsOut w2)) := stores_any m vv vc vg la lc L w2 (HMo.out w2 HB2.out) (HLC.out w2 HB2.out) hl (Nat.lt_of_lt_of_le hsW HB2.out.size)
    go_wp2_with fail
    refine calls_at HSt.out (by with_reducible rfl) (by with_reducible rfl) ?_
    rintro e w3 ⟨p, r, O, s, rfl, hT3, hb3⟩
    have HB3 : Hid (Below W.heap.size W w3) := bl_next HB2.out hb3
    obtain ⟨nv, mv, S, Bs, hA3, _⟩ := hT3.du.ex
    have HA3 : Hid (StAt Bs w3 p nv mv s) := hA3
    have HAl : Hid (Alls s) := hT3.al
    have HO3 : Hid (Calls Tryz.prog 10 #[.pointer (some ⟨p, 0, none⟩)] w3 (VsOut (openL s.now s.now.length) w3)) := open_any Bs p nv mv s w3 hA3
    clear hT3 hb3 hA3 c0 c1 c2 c3
    go_wp2_with fail
    refine calls_at HO3.out (by with_reducible rfl) (by with_reducible rfl) ?_
    rintro e w4 ⟨ov, rfl, hov, hb4⟩
    have HB4 : Hid (Below W.heap.size W w4) := bl_next HB3.out hb4
    have HA4 : Hid (StAt Bs w4 p nv mv s) := HA3.out.below hb4
    have HP4 : Hid (Calls Tryz.prog 8 #[.pointer (some ⟨p, 0, none⟩), .int .i64 n] w4 fun e w' => e = .returned (pkV s n) ∧ Below w4.heap.size w4 w') := pick_any n HA4.out HAl.out (HTz.out w4 HB4.out)
    obtain ⟨oa, oc, rfl, hoc⟩ := row_form hov
    have HOC : Hid (∀ j (hj : j < (openL s.now s.now.length).length), ∃ g, oa = some ⟨g, 0, none⟩ ∧ g < w4.heap.size ∧ w4.cell? ⟨g, j, none⟩ = some (.int .i64 (openL s.now s.now.length)[j])) := fun j hj => by
      obtain ⟨g, e1, e2, e3, e4⟩ := hoc j hj
      exact ⟨g, e1, e3, e4⟩
    clear hb4 hov hoc
    by_cases hF : (openL s.now s.now.length).length = 0
    · have HP5 : Hid (Calls Tryz.prog 8 #[.pointer (some ⟨p, 0, none⟩), .int .i64 n] w4 fun e w' => e = .returned (.tuple #[.int .i64 0, .int .i64 0, .bool false]) ∧ Below w4.heap.size w4 w') := by
        have := HP4.out
        unfold pkV at this
        rw [if_pos hF] at this
        exact this
      rw [hF]
      clear HP4
      go_wp2_with fail
      refine calls_at HP5.out (by with_reducible rfl) (by with_reducible rfl) ?_
      rintro e w5 ⟨rfl, hb5⟩
      have HB5 : Hid (Below W.heap.size W w5) := bl_next HB4.out hb5
      clear hb5
      go_wp2_with fail
      go_ret
      exact ⟨rfl, HB.out.trans (HB5.out.mono HB.out.size)⟩
    · obtain ⟨i0, x, hi0, hx, f1, f2, f3, f4, f5, f6, f7, f8, f9⟩ := pk_at HAl.out n (by omega)
      obtain ⟨k, hk⟩ : ∃ k, pkK s n = k := ⟨_, rfl⟩
      rw [hk] at f6 f7
      have HP5 : Hid (Calls Tryz.prog 8 #[.pointer (some ⟨p, 0, none⟩), .int .i64 n] w4 fun e w' => e = .returned (.tuple #[.int .i64 (x : Int), .int .i64 k, .bool true]) ∧ Below w4.heap.size w4 w') := by
        have := HP4.out
        unfold pkV at this
        rw [if_neg hF, f3, hk] at this
        exact this
      have hFI : ((openL s.now s.now.length).length : Int) ≠ 0 := by omega
      have hFJ : (0 : Int) < ((openL s.now s.now.length).length : Int) := by omega
      have hFd : (!decide (0 < (openL s.now s.now.length).length)) = false := by simp; omega
      clear HP4 f2 f3 f5
      go_wp2_with fail
      refine calls_at HP5.out (by with_reducible rfl) (by with_reducible rfl) ?_
      rintro e w5 ⟨rfl, hb5⟩
      have HB5 : Hid (Below W.heap.size W w5) := bl_next HB4.out hb5
      have HA5 : Hid (StAt Bs w5 p nv mv s) := HA4.out.below hb5
      have HL5 : Hid (Below w4.heap.size w4 w5) := hb5
      clear hb5
      obtain ⟨⟨r1, r2⟩, ⟨r3, r4⟩, r5⟩ := parts_of HAl.out hx k f6 f7
      obtain ⟨za, zb, zs, V, hv, z1, z2, z3, z4, z5, z6⟩ := ask_of r5
      have HWA : Hid (s.went 2 (x : Int) (k - 1) = true ∧ s.may 2 (x : Int) (k - 1) = true) := ⟨r1, r2⟩
      have HWB : Hid (s.went 1 (x : Int) k = true ∧ s.may 1 (x : Int) k = true) := ⟨r3, r4⟩
      have HAk : Hid (∀ (w' : World) (pa pb : Nat), Below W.heap.size W w' → Tr3 w' p pa pb s (s.cut 2 (x : Int) (k - 1)) (s.cut 1 (x : Int) k) → PtAsk w' p pa pb (x : Int) za zb zs V hv) := fun w' pa pb hb ht => z6 w' p pa pb ht (HTz.out w' hb) HAl.out
      have hk1 : -1000000000 ≤ k := by omega
      have hk2 : k ≤ 2000000000 := by omega
      clear r1 r2 r3 r4 r5 z6 f6 f7 hk
      go_wp2_with fail
      refine calls_at (two_copies ⟨_, _, _, HA5.out⟩) (by with_reducible rfl) (by with_reducible rfl) ?_
      rintro e w6 ⟨pa, nva, mva, rfl, hA6, hb6⟩
      have HB6 : Hid (Below W.heap.size W w6) := bl_next HB5.out hb6
      have HA6 : Hid (StAt Bs w6 p nv mv s) := HA5.out.below hb6
      have HC6 : Hid (StAt w5.heap.size w6 pa nva mva s) := hA6
      have HL6 : Hid (Below w5.heap.size w5 w6) := hb6
      clear hA6 hb6
      go_wp2_with fail
      refine calls_at (two_copies ⟨_, _, _, HA6.out⟩) (by with_reducible rfl) (by with_reducible rfl) ?_
      rintro e w7 ⟨pb, nvb, mvb, rfl, hA7, hb7⟩
      have HB7 : Hid (Below W.heap.size W w7) := bl_next HB6.out hb7
      have HL7 : Hid (Below w6.heap.size w6 w7) := hb7
      have HC7 : Hid (Cp3 w7 p pa pb s s s w5.heap.size w6.heap.size) := ⟨⟨Bs, nv, mv, HA6.out.below hb7, fun j hj => own_lt HA5.out hj⟩, ⟨nva, mva, HC6.out.below hb7, fun j hj => own_lt HC6.out hj⟩, ⟨nvb, mvb, hA7⟩, HL6.out.size⟩
      clear hA7 hb7
      have HCa : Hid (Calls Tryz.prog 12 #[.pointer (some ⟨pa, 0, none⟩), .agg #[.int .i64 2, .int .i64 (x : Int), .int .i64 (k - 1)]] w7 fun e w' => e = .returned (.tuple #[.bool true, .bool true]) ∧ Cp3 w' p pa pb s (s.cut 2 (x : Int) (k - 1)) s w5.heap.size w6.heap.size ∧ Below w5.heap.size w7 w') := by
        have := HC7.out.cutA 2 (x : Int) (k - 1)
        rw [HWA.out.1, HWA.out.2] at this
        exact this
      go_wp2_with fail
      refine calls_at HCa.out (by with_reducible rfl) (by with_reducible rfl) ?_
      rintro e w8 ⟨rfl, hC8, hb8⟩
      have HC8 : Hid (Cp3 w8 p pa pb s (s.cut 2 (x : Int) (k - 1)) s w5.heap.size w6.heap.size) := hC8
      have HL8 : Hid (Below w5.heap.size w7 w8) := hb8
      have HCb : Hid (Calls Tryz.prog 12 #[.pointer (some ⟨pb, 0, none⟩), .agg #[.int .i64 1, .int .i64 (x : Int), .int .i64 k]] w8 fun e w' => e = .returned (.tuple #[.bool true, .bool true]) ∧ Cp3 w' p pa pb s (s.cut 2 (x : Int) (k - 1)) (s.cut 1 (x : Int) k) w5.heap.size w6.heap.size ∧ Below w5.heap.size w8 w') := by
        have := hC8.cutB 1 (x : Int) k
        rw [HWB.out.1, HWB.out.2] at this
        exact this
      clear hC8 hb8
      go_wp2_with fail
      refine calls_at HCb.out (by with_reducible rfl) (by with_reducible rfl) ?_
      rintro e w9 ⟨rfl, hC9, hb9⟩
      have HB9 : Hid (Below W.heap.size W w9) := (HB7.out.trans (HL8.out.mono HB5.out.size)).trans (hb9.mono HB5.out.size)
      have HT9 : Hid (Tr3 w9 p pa pb s (s.cut 2 (x : Int) (k - 1)) (s.cut 1 (x : Int) k)) := hC9.three
      have HL9 : Hid (Below w5.heap.size w5 w9) := ((bl_next HL6.out HL7.out).trans HL8.out).trans hb9
      clear hC9 hb9
      have HQ : Hid (∀ w', Below w9.heap.size w9 w' → PtAsk w' p pa pb (x : Int) za zb zs V hv) := fun w' hb => HAk.out w' pa pb (bl_next HB9.out hb) (HT9.out.below hb)
      have HS9 : Hid (Below w9.heap.size w9 w9) := Below.refl _ _
      have hza : za ≤ 64 := by omega
      have hzb : zb ≤ 64 := by omega
      have hzz : za + zb - zs = 0 := by omega
      go_wp2_with fail
      refine calls_at (HQ.out _ HS9.out).sa (by with_reducible rfl) (by with_reducible rfl) ?_
      rintro e w10 ⟨rfl, hb10⟩
      have HS10 : Hid (Below w9.heap.size w9 w10) := bl_next HS9.out hb10
      clear hb10
      go_wp2_with fail
      refine calls_at (HQ.out _ HS10.out).sb (by with_reducible rfl) (by with_reducible rfl) ?_
      rintro e w11 ⟨rfl, hb11⟩
      have HS11 : Hid (Below w9.heap.size w9 w11) := bl_next HS10.out hb11
      clear hb11
      go_wp2_with fail
      refine calls_at (HQ.out _ HS11.out).ss (by with_reducible rfl) (by with_reducible rfl) ?_
      rintro e w12 ⟨rfl, hb12⟩
      have HS12 : Hid (Below w9.heap.size w9 w12) := bl_next HS11.out hb12
      clear hb12
      go_wp2_with fail
      refine calls_at (HQ.out _ HS12.out).sa (by with_reducible rfl) (by with_reducible rfl) ?_
      rintro e w13 ⟨rfl, hb13⟩
      have HS13 : Hid (Below w9.heap.size w9 w13) := bl_next HS12.out hb13
      clear hb13
      go_wp2_with fail
      refine calls_at (HQ.out _ HS13.out).sb (by with_reducible rfl) (by with_reducible rfl) ?_
      rintro e w14 ⟨rfl, hb14⟩
      have HS14 : Hid (Below w9.heap.size w9 w14) := bl_next HS13.out hb14
      clear hb14
      go_wp2_with fail
      refine calls_at (HQ.out _ HS14.out).vs (by with_reducible rfl) (by with_reducible rfl) ?_
      rintro e w15 ⟨vs, rfl, hvs, hb15⟩
      have HS15 : Hid (Below w9.heap.size w9 w15) := bl_next HS14.out hb15
      obtain ⟨va, vcp, rfl, hvc⟩ := row_form hvs
      have HV : Hid (∀ w', Below w15.heap.size w15 w' → ∀ j (hj : j < V.length), ∃ g, va = some ⟨g, 0, none⟩ ∧ w'.cell? ⟨g, j, none⟩ = some (.int .i64 V[j])) := fun w' hb j hj => by
        obtain ⟨g, e1, _, e2, e3⟩ := hvc j hj
        exact ⟨g, e1, (hb.cell (p := ⟨g, j, none⟩) e2).trans e3⟩
      clear hvs hvc hb15
      obtain ⟨i1, e1, i2, i3⟩ := turn_at which ((openL s.now s.now.length).length : Int) (by omega) (by have := openL_len s.now s.now.length; have := HA5.out.n32; omega)
      obtain ⟨i, rfl⟩ : ∃ i : Nat, i1 = (i : Int) := ⟨i1.toNat, by omega⟩
      have hin : i < (openL s.now s.now.length).length := by omega
      obtain ⟨y, hy, hFy, hyz⟩ := open_at hin
      obtain ⟨hyo, hyA⟩ := HAl.out _ (List.getElem_mem hy)
      have hyf := fine_of hyo hyA
      have hyl := lo_hi hyo hyA hyz
      have y1 := hyf.b1
      have y2 := hyf.b2
      obtain ⟨ylo, hylo⟩ : ∃ z, s.now[y].lo = z := ⟨_, rfl⟩
      obtain ⟨yhi, hyhi⟩ : ∃ z, s.now[y].hi = z := ⟨_, rfl⟩
      rw [hylo] at hyl y1
      rw [hyhi] at hyl y2
      obtain ⟨j, e2, j2, j3⟩ := turn_at at' (yhi - ylo) (by omega) (by omega)
      have hf32 : (openL s.now s.now.length).length ≤ 32 := Nat.le_trans (openL_len _ _) HA5.out.n32
      obtain ⟨pr, hpr, pr1, pr2⟩ : ∃ pr, ((openL s.now s.now.length).length : Int) * j = pr ∧ 0 ≤ pr ∧ pr ≤ 1000000000000 := by
        refine ⟨_, rfl, Int.mul_nonneg (by omega) j2, ?_⟩
        have := Int.mul_le_mul (show ((openL s.now s.now.length).length : Int) ≤ 32 by omega) (show j ≤ 3000000000 by omega) j2 (by omega)
        omega
      have HPk : Hid (∀ w', Below w9.heap.size w9 w' → Calls Tryz.prog 8 #[.pointer (some ⟨p, 0, none⟩), .int .i64 ((i : Int) + pr)] w' fun e w2 => e = .returned (.tuple #[.int .i64 (y : Int), .int .i64 (ylo + 1 + j), .bool true]) ∧ Below w'.heap.size w' w2) := fun w' hb => by
        have := pick_st ((i : Int) + pr) (HT9.out.below hb).s HAl.out (HTz.out w' (bl_next HB9.out hb))
        rw [← hpr, pk_turn hin hy hFy j2 (by rw [hylo, hyhi]; exact j3) (by omega), hylo, hpr] at this
        exact this
      have HLo : Hid (∀ w', Below w9.heap.size w9 w' → Calls Tryz.prog 17 #[.pointer (some ⟨p, 0, none⟩), .int .i64 (y : Int)] w' fun e w2 => e = .returned (.int .i64 ylo) ∧ Below w'.heap.size w' w2) := fun w' hb => by
        have := lo_at hy (HT9.out.below hb).s (HTz.out w' (bl_next HB9.out hb))
        rw [hylo] at this
        exact this
      have HHi : Hid (∀ w', Below w9.heap.size w9 w' → Calls Tryz.prog 16 #[.pointer (some ⟨p, 0, none⟩), .int .i64 (y : Int)] w' fun e w2 => e = .returned (.int .i64 yhi) ∧ Below w'.heap.size w' w2) := fun w' hb => by
        have := hi_at hy (HT9.out.below hb).s
        rw [hyhi] at this
        exact this
      have HOy : Hid (∃ g, oa = some ⟨g, 0, none⟩ ∧ ∀ w', Below w9.heap.size w9 w' → w'.cell? ⟨g, i, none⟩ = some (.int .i64 (y : Int))) := by
        obtain ⟨g, q1, q2, q3⟩ := HOC.out i hin
        rw [hFy] at q3
        have q4 : g < w5.heap.size := Nat.lt_of_lt_of_le q2 HL5.out.size
        refine ⟨g, q1, fun w' hb => ?_⟩
        have q5 := (HL5.out.cell (p := ⟨g, i, none⟩) q2).trans q3
        have q6 := (HL9.out.cell (p := ⟨g, i, none⟩) q4).trans q5
        exact (hb.cell (p := ⟨g, i, none⟩) (Nat.lt_of_lt_of_le q4 HL9.out.size)).trans q6
      have hiI : (i : Int) < ((openL s.now s.now.length).length : Int) := i3
      have hyw : yhi - ylo ≠ 0 := by omega
      have hwr : wrap64 ((i : Int) + pr) = (i : Int) + pr := by unfold wrap64; omega
      clear hyf hyo hyA hyz hylo hyhi hFy hin i2 i3 hf32
      go_wp2_with fail
      go_loopw [24] (fun iv wr => ∃ q : Nat, iv = .int .i64 (q : Int) ∧ q ≤ V.length ∧ Hid (Below w15.heap.size w15 wr)) (fun iv _ => V.length - (intOf iv).toNat)
      case atStart => exact ⟨0, rfl, Nat.zero_le _, Below.refl _ _⟩
      case round =>
        obtain ⟨q, rfl, hq, HBr⟩ := hrel
        by_cases hqn : q < V.length
        · have hqI : (q : Int) < (V.length : Int) := by omega
          obtain ⟨g, rfl, y0⟩ := HV.out wr HBr.out q hqn
          obtain ⟨u, hu⟩ : ∃ u, V[q] = u := ⟨_, rfl⟩
          obtain ⟨bu, hbu⟩ : ∃ b, hv u = b := ⟨_, rfl⟩
          have hmem : u ∈ V := hu ▸ List.getElem_mem hqn
          have HX : Hid (∀ w', Below w15.heap.size w15 w' → w'.cell? ⟨g, q, none⟩ = some (.int .i64 u) ∧ Below w15.heap.size w15 w') := fun w' hb => by
            obtain ⟨g', e1, e2⟩ := HV.out w' hb q hqn
            injection e1 with e1
            injection e1 with e1
            subst e1
            rw [hu] at e2
            exact ⟨e2, hb⟩
          have HC1 : Hid (∀ w', Below w15.heap.size w15 w' → Calls Tryz.prog 15 #[.pointer (some ⟨pa, 0, none⟩), .int .i64 (x : Int), .int .i64 u] w' fun e w2 => e = .returned (.bool bu) ∧ Below w'.heap.size w' w2) := fun w' hb => by
            have := (HQ.out w' (bl_next HS15.out hb)).ha u hmem
            rw [hbu] at this
            exact this
          have HC2 : Hid (∀ w', Below w15.heap.size w15 w' → Calls Tryz.prog 15 #[.pointer (some ⟨pb, 0, none⟩), .int .i64 (x : Int), .int .i64 u] w' fun e w2 => e = .returned (.bool (!bu)) ∧ Below w'.heap.size w' w2) := fun w' hb => by
            have := (HQ.out w' (bl_next HS15.out hb)).hb u hmem
            rw [hbu] at this
            exact this
          rw [hu] at y0
          have hne : (bu == !bu) = false := by cases bu <;> rfl
          clear hu hbu
          go_wp2_with fail
          go_region_held3 (fun w' => w'.cell? ⟨g, q, none⟩ = some (.int .i64 u) ∧ Below w15.heap.size w15 w')
            (first | exact HX.out _ HBr.out.drew | exact HX.out _ (bl_next (And.right (by assumption)) (by assumption)) | assumption)
            (first
              | (go_at_call 15; refine calls_at (HC1.out _ HBr.out.drew) (by with_reducible rfl) (by with_reducible rfl) ?_; rintro e w16 ⟨rfl, hb16⟩)
              | (go_at_call 15; refine calls_at (HC2.out w16 (And.right (by assumption))) (by with_reducible rfl) (by with_reducible rfl) ?_; rintro e w17 ⟨rfl, hb17⟩; (have HB16 : Hid (Below w15.heap.size w15 w16) := And.right (by assumption)); (have HB17 : Hid (Below w15.heap.size w15 w17) := bl_next HB16.out hb17)))
          go_wp2_with fail
          go_roundw
          case rel => exact ⟨q + 1, by go_num, hqn, HB17⟩
          case measure => simp [intOf]; omega
        · have hqI : ¬ (q : Int) < (V.length : Int) := by omega
          obtain ⟨og, rfl, hog⟩ := HOy.out
          have HSr : Hid (Below w9.heap.size w9 wr) := bl_next HS15.out HBr.out
          have o0 := hog wr HSr.out
          clear hog
          go_wp2_with fail
          refine calls_at (HHi.out _ HSr.out) (by with_reducible rfl) (by with_reducible rfl) ?_
          rintro e w18 ⟨rfl, hb18⟩
          have HS18 : Hid (Below w9.heap.size w9 w18) := bl_next HSr.out hb18
          clear hb18
          go_wp2_with fail
          refine calls_at (HLo.out _ HS18.out) (by with_reducible rfl) (by with_reducible rfl) ?_
          rintro e w19 ⟨rfl, hb19⟩
          have HS19 : Hid (Below w9.heap.size w9 w19) := bl_next HS18.out hb19
          clear hb19
          go_wp2_with fail
          refine calls_at (HPk.out _ HS19.out) (by with_reducible rfl) (by with_reducible rfl) ?_
          rintro e w20 ⟨rfl, hb20⟩
          have HS20 : Hid (Below w9.heap.size w9 w20) := bl_next HS19.out hb20
          clear hb20
          go_wp2_with fail
          refine calls_at (HLo.out _ HS20.out) (by with_reducible rfl) (by with_reducible rfl) ?_
          rintro e w21 ⟨rfl, hb21⟩
          have HS21 : Hid (Below W.heap.size W w21) := bl_next HB9.out (bl_next HS20.out hb21)
          clear hb21
          go_wp2_with fail
          go_ret
          exact ⟨rfl, HB.out.trans (HS21.out.mono HB.out.size)⟩
  · have hlI : (300 : Int) < (L.length : Int) := by omega
    go_wp2_with fail
    go_ret
    exact ⟨rfl, HB.out.trans (HB2.out.mono HB.out.size)⟩
end Go.Proofs.YtdfbmfikhccajaaGreatDoor
