/-
  PropLess: the walk.
-/
import Derived.Test.YtlcegpnnanhloaaGreatDoorJ45
import Derived.Test.YtlcegpnnanhloaaGreatDoorJ48
import Derived.Test.YtlcegpnnanhloaaGreatDoorJ43
import Derived.Test.YtlcegpnnanhloaaGreatDoorDmOrdP
namespace Go.Proofs.YtlcegpnnanhloaaGreatDoor
open Go.RowKit

/-- P12.12, at two stores. -/
theorem less_fin (m : Md.Mo) (L M : List Ct) (c : Md.Cn) : ((cutR (foldC (foldC (newS m) L) M).now c).2 = true → (cutR (foldC (newS m) L).now c).2 = true) ∧ ((cutR (foldC (foldC (newS m) L) M).now c).2 = true → ∀ (x : Nat) (d' : Dm) (v : Int), (foldC (foldC (newS m) L) M).now[x]? = some d' → v ∈ d'.all → someB (cutR (foldC (foldC (newS m) L) M).now c).1 (x : Int) v = true → someB (cutR (foldC (newS m) L).now c).1 (x : Int) v = true) := by
  have hA := (fold_less L (alls_new m)).1
  obtain ⟨hA', hw⟩ := fold_less M hA
  have hf := fines_alls hA
  have hf' := fines_alls hA'
  obtain ⟨h1, h2⟩ := cutR_less (c := c) hf' hf hw
  exact ⟨h1, fun h x d' v hd hv => h2 h x d' v hd (((hf'.get x d' hd).all v).1 hv)⟩

set_option maxRecDepth 10000 in
set_option maxHeartbeats 8000000 in
theorem propLess_walk (m : Md.Mo) (vv vc vg : Value) (a : Option Addr) (cap : Nat) (L : List Ct) (a2 : Option Addr) (cap2 : Nat) (M : List Ct) (c : Md.Cn) (vt vx vb vr : Value) (w : World) (hM : MoAt w m vv vc vg) (hL : ∀ w', Below w.heap.size w w' → CtsAt w' a L) (hL2 : ∀ w', Below w.heap.size w w' → CtsAt w' a2 M) (hC : CnAt w c vt vx vb vr) (hn : L.length ≤ 9223372036854775000) (hn2 : M.length ≤ 9223372036854775000) (hT : Tz w) (hs : 0 < w.heap.size) : Calls Tryz.prog 5 #[moVal m vv vc vg, .slice a L.length cap, .slice a2 M.length cap2, cnVal c vt vx vb vr] w fun e w' => e = .returned (.bool true) ∧ Below w.heap.size w w' := by
  obtain ⟨W, hW⟩ : ∃ W, (w.alloc (.cells #[vv, vc, .bool m.has, vg] 26)).alloc (.cells #[.int .i64 c.kind, .int .i64 c.op, vt, .int .i64 c.k, .int .i64 c.v, .int .i64 c.x, .int .i64 c.y, vx, vb, vr] 31) = W := ⟨_, rfl⟩
  have hb0 : Below w.heap.size w W := by rw [← hW]; exact ((Below.refl _ _).alloc (Nat.le_refl _) _).alloc (by simp) _
  have g0 : W.heap[w.heap.size]? = some (.cells #[vv, vc, .bool m.has, vg] 26 (0, 0)) := by rw [← hW, heap_alloc_old (w.alloc _) _ (by simp)]; exact heap_alloc_new w _
  have g1 : W.heap[w.heap.size + 1]? = some (.cells #[.int .i64 c.kind, .int .i64 c.op, vt, .int .i64 c.k, .int .i64 c.v, .int .i64 c.x, .int .i64 c.y, vx, vb, vr] 31 (0, 0)) := by rw [← hW]; exact heap_alloc2_new w _ _
  have HWs : Hid (∀ w', Below W.heap.size W w' → Below w.heap.size w w') := fun w' hb => hb0.trans (hb.mono hb0.size)
  have hsW : 0 < W.heap.size := Nat.lt_of_lt_of_le hs hb0.size
  have HF : Hid (Calls Tryz.prog 6 #[.agg #[vv, vc, .bool m.has, vg], .agg #[.int .i64 c.kind, .int .i64 c.op, vt, .int .i64 c.k, .int .i64 c.v, .int .i64 c.x, .int .i64 c.y, vx, vb, vr], .slice a L.length cap, .slice none 0 0] W fun e w' => (∃ b : Bool, e = .returned (.bool b) ∧ (b = true → L.length + 0 ≤ 20000)) ∧ Below W.heap.size W w') := few_any m vv vc vg c vt vx vb vr a none L.length 0 cap 0 W (hM.below hb0) (hC.below hb0) (by omega)
  have HF2 : Hid (∀ w', Below W.heap.size W w' → Calls Tryz.prog 6 #[.agg #[vv, vc, .bool m.has, vg], .agg #[.int .i64 c.kind, .int .i64 c.op, vt, .int .i64 c.k, .int .i64 c.v, .int .i64 c.x, .int .i64 c.y, vx, vb, vr], .slice a2 M.length cap2, .slice none 0 0] w' fun e w2 => (∃ b : Bool, e = .returned (.bool b) ∧ (b = true → M.length + 0 ≤ 20000)) ∧ Below w'.heap.size w' w2) := fun w' hb => few_any m vv vc vg c vt vx vb vr a2 none M.length 0 cap2 0 w' (hM.below (HWs.out w' hb)) (hC.below (HWs.out w' hb)) (by omega)
  have HK : Hid (∀ w', Below W.heap.size W w' → Calls Tryz.prog 7 #[] w' fun e w2 => e = .returned (.bool true) ∧ Below w'.heap.size w' w2) := fun w' hb => known_any w' ((hT.below hb0 hs).below hb hsW) (Nat.lt_of_lt_of_le hsW hb.size)
  have HBh : Hid (∀ w', Below W.heap.size W w' → Calls Tryz.prog 8 #[.agg #[vv, vc, .bool m.has, vg], .slice a L.length cap] w' (BhOut m L w')) := fun w' hb => behind_any m vv vc vg a cap L w' (hM.below (HWs.out w' hb)) (Nat.lt_of_lt_of_le hsW hb.size) (hL w' (HWs.out w' hb)) (by omega)
  have HTz : Hid (∀ w', Below W.heap.size W w' → Tz w') := fun w' hb => (hT.below hb0 hs).below hb hsW
  have HsW : Hid (0 < W.heap.size) := hsW
  have HC2 : Hid (∀ w', Below W.heap.size W w' → CtsAt w' a2 M) := fun w' hb => hL2 w' (HWs.out w' hb)
  have HCu : Hid (∀ B p nv mv s w', Below W.heap.size W w' → StAt B w' p nv mv s → Calls Tryz.prog 10 #[.agg #[.int .i64 c.kind, .int .i64 c.op, vt, .int .i64 c.k, .int .i64 c.v, .int .i64 c.x, .int .i64 c.y, vx, vb, vr], .pointer (some ⟨p, 0, none⟩)] w' fun e w3 => ∃ a cap, e = .returned (.tuple #[.slice a (cutR s.now c).1.length cap, .bool (cutR s.now c).2]) ∧ CtsAt w3 a (cutR s.now c).1 ∧ Below w'.heap.size w' w3) := fun B p nv mv s w' hb hS => cuts_lit hS (HTz.out w' hb) (Nat.lt_of_lt_of_le hsW hb.size) (Below.refl _ _) (hC.below (HWs.out w' hb)) rfl rfl
  have HGc : Hid (∀ w', Below W.heap.size W w' → (w'.cell? ⟨w.heap.size, 0, none⟩ = some vv ∧ w'.cell? ⟨w.heap.size, 1, none⟩ = some vc ∧ w'.cell? ⟨w.heap.size, 2, none⟩ = some (.bool m.has) ∧ w'.cell? ⟨w.heap.size, 3, none⟩ = some vg) ∧ (w'.cell? ⟨w.heap.size + 1, 0, none⟩ = some (.int .i64 c.kind) ∧ w'.cell? ⟨w.heap.size + 1, 1, none⟩ = some (.int .i64 c.op) ∧ w'.cell? ⟨w.heap.size + 1, 2, none⟩ = some vt ∧ w'.cell? ⟨w.heap.size + 1, 3, none⟩ = some (.int .i64 c.k) ∧ w'.cell? ⟨w.heap.size + 1, 4, none⟩ = some (.int .i64 c.v) ∧ w'.cell? ⟨w.heap.size + 1, 5, none⟩ = some (.int .i64 c.x) ∧ w'.cell? ⟨w.heap.size + 1, 6, none⟩ = some (.int .i64 c.y) ∧ w'.cell? ⟨w.heap.size + 1, 7, none⟩ = some vx ∧ w'.cell? ⟨w.heap.size + 1, 8, none⟩ = some vb ∧ w'.cell? ⟨w.heap.size + 1, 9, none⟩ = some vr)) := fun w' hb => by
    have e0 := (hb.block _ (Array.getElem?_eq_some_iff.1 g0).1).trans g0
    have e1 := (hb.block _ (Array.getElem?_eq_some_iff.1 g1).1).trans g1
    exact ⟨⟨cell_of e0 0, cell_of e0 1, cell_of e0 2, cell_of e0 3⟩, cn_cells e1⟩
  have HFin : Hid (∀ s t, s = foldC (newS m) L → t = foldC s M → ((cutR t.now c).2 = true → (cutR s.now c).2 = true) ∧ ((cutR t.now c).2 = true → ∀ (x : Nat) (d' : Dm) (v : Int), t.now[x]? = some d' → v ∈ d'.all → someB (cutR t.now c).1 (x : Int) v = true → someB (cutR s.now c).1 (x : Int) v = true)) := fun s t e1 e2 => by subst e1; subst e2; exact less_fin m L M c
  have hmv : moVal m vv vc vg = .agg #[vv, vc, .bool m.has, vg] := rfl
  have hcv : cnVal c vt vx vb vr = .agg #[.int .i64 c.kind, .int .i64 c.op, vt, .int .i64 c.k, .int .i64 c.v, .int .i64 c.x, .int .i64 c.y, vx, vb, vr] := rfl
  rw [hmv, hcv]
  obtain ⟨⟨p0, p1, p2, p3⟩, q0, q1, q2, q3, q4, q5, q6, q7, q8, q9⟩ := HGc.out W (Below.refl _ _)
  clear hM hL hL2 hC hT hs hb0 g0 g1 hsW hmv hcv
  go_enter Tryz.func5, Tryz.ntmps5
  go_upto_region 1 with fail
  try rw [hW]
  clear hW
  go_cut [30] from 19 to 30 (fun s30 wx => (∃ b : Bool, s30 = .bool b) ∧ Hid (Below W.heap.size W wx))
  case first =>
    go_wp2_with (first | (go_at_call 6; refine calls_at HF.out (by with_reducible rfl) (by with_reducible rfl) ?_; rintro e w1 ⟨⟨b1, rfl, _⟩, hb1⟩; (have HB1 : Hid (Below W.heap.size W w1) := hb1); clear hb1; (obtain ⟨⟨p0, p1, p2, p3⟩, q0, q1, q2, q3, q4, q5, q6, q7, q8, q9⟩ := HGc.out w1 HB1.out)) | (go_at_call 6; refine calls_at (HF2.out w1 HB1.out) (by with_reducible rfl) (by with_reducible rfl) ?_; rintro e w2 ⟨⟨b2, rfl, _⟩, hb2⟩; (have HB2 : Hid (Below W.heap.size W w2) := bl_next HB1.out hb2); clear hb2))
    all_goals go_meet
    all_goals first | exact ⟨⟨_, rfl⟩, HB2⟩ | exact ⟨⟨_, rfl⟩, HB1⟩
  case rest =>
  obtain ⟨⟨bf, rfl⟩, HB1⟩ := hcut
  rename World => w1
  clear HF HF2 p0 p1 p2 p3 q0 q1 q2 q3 q4 q5 q6 q7 q8 q9
  cases bf with
  | true =>
    go_wp2_with fail
    go_ret
    exact ⟨rfl, HWs.out _ HB1.out⟩
  | false =>
  go_upto_region 5 with (go_at_call 7; refine calls_at (HK.out w1 HB1.out) (by with_reducible rfl) (by with_reducible rfl) ?_; rintro e w2 ⟨rfl, hb2⟩)
  have HB2 : Hid (Below W.heap.size W w2) := bl_next HB1.out hb2
  clear hb2 HK HB1
  obtain ⟨⟨p0, p1, p2, p3⟩, _⟩ := HGc.out w2 HB2.out
  go_upto_region 8 with (go_at_call 8; refine calls_at (HBh.out w2 HB2.out) (by with_reducible rfl) (by with_reducible rfl) ?_; rintro e w3 ⟨B, p, nv, mv, hB, rfl, hS3, hb3⟩)
  have HB3 : Hid (Below W.heap.size W w3) := bl_next HB2.out hb3
  obtain ⟨s, hse⟩ : ∃ s, foldC (newS m) L = s := ⟨_, rfl⟩
  rw [hse] at hS3
  have HFs := fun t => HFin.out s t hse.symm
  have HFt : Hid (∀ t, t = foldC s M → ((cutR t.now c).2 = true → (cutR s.now c).2 = true) ∧ ((cutR t.now c).2 = true → ∀ (x : Nat) (d' : Dm) (v : Int), t.now[x]? = some d' → v ∈ d'.all → someB (cutR t.now c).1 (x : Int) v = true → someB (cutR s.now c).1 (x : Int) v = true)) := HFs
  have HS : Hid (StAt B w3 p nv mv s) := hS3
  have HCp : Hid (Calls Tryz.prog 16 #[.pointer (some ⟨p, 0, none⟩)] w3 (CopyOut s w3)) := copy_any B p nv mv s w3 hS3
  clear HFs hse hS3 hb3 hB HBh HFin p0 p1 p2 p3
  go_upto_region 9 with (go_at_call 16; refine calls_at HCp.out (by with_reducible rfl) (by with_reducible rfl) ?_; rintro e w4 ⟨q, nw, mw, rfl, hS4, hb4⟩)
  have HP4 : Hid (Pr B w3.heap.size p q nv mv nw mw s (foldC s (M.take 0)) w4) := Pr.of HS.out hb4 hS4
  have HB4 : Hid (Below W.heap.size W w4) := bl_next HB3.out hb4
  have HW3 : Hid (W.heap.size ≤ w3.heap.size) := HB3.out.size
  have HCt : Hid (∀ Bq t (z : Ct) w', StAt Bq w' q nw mw t → Calls Tryz.prog 14 #[.pointer (some ⟨q, 0, none⟩), .agg #[.int .i64 z.k, .int .i64 z.x, .int .i64 z.v]] w' (CutOut Bq q nw mw t z.k z.x z.v w')) := fun Bq t z w' h => cut_any Bq q nw mw t z.k z.x z.v w' h
  clear hS4 hb4 HCp HS HB3
  go_wp2_with fail
  go_loopw [11] (fun iv wr => ∃ (k : Nat), iv = .int .i64 (k : Int) ∧ k ≤ M.length ∧ Hid (Pr B w3.heap.size p q nv mv nw mw s (foldC s (M.take k)) wr) ∧ Hid (Below W.heap.size W wr)) (fun iv _ => M.length - (intOf iv).toNat)
  case atStart => exact ⟨0, rfl, Nat.zero_le _, HP4, HB4⟩
  case round =>
  obtain ⟨k, rfl, hk, HP, HBr⟩ := hrel
  by_cases hkn : k < M.length
  · have hkI : (k : Int) < (M.length : Int) := by omega
    obtain ⟨b, off, rfl, c0, c1, c2⟩ := HC2.out wr HBr.out k hkn
    have HKc : Hid (Calls Tryz.prog 14 #[.pointer (some ⟨q, 0, none⟩), .agg #[.int .i64 M[k].k, .int .i64 M[k].x, .int .i64 M[k].v]] wr (CutOut w3.heap.size q nw mw (foldC s (M.take k)) M[k].k M[k].x M[k].v wr)) := HCt.out _ _ M[k] wr HP.out.b
    have HX : Hid (foldC s (M.take (k + 1)) = (foldC s (M.take k)).cut M[k].k M[k].x M[k].v) := foldC_next hkn
    go_wp2_with (go_at_call 14; refine calls_at HKc.out (by with_reducible rfl) (by with_reducible rfl) ?_; rintro e w5 ⟨rfl, hS5, hT5⟩)
    go_roundw
    case rel => exact ⟨k + 1, by go_num, hkn, (by show Pr _ _ _ _ _ _ _ _ _ _ _; rw [HX.out]; exact HP.out.stepB hS5 hT5), HBr.out.trans (hT5.below.mono HW3.out)⟩
    case measure => simp [intOf]; omega
  have hke : k = M.length := by omega
  subst hke
  have hkI : ¬ (M.length : Int) < (M.length : Int) := by omega
  obtain ⟨t, hte⟩ : ∃ t, foldC s M = t := ⟨_, rfl⟩
  have HP5 : Hid (Pr B w3.heap.size p q nv mv nw mw s t wr) := by have := HP.out; rw [List.take_length, hte] at this; exact this
  have HFx := HFt.out t hte.symm
  clear HP HP4 HB4 HCt HFt hte hkn hk HC2
  have hRs := cutR_len s.now c HP5.out.a.n32
  have hRt := cutR_len t.now c HP5.out.b.n32
  have HCs := HCu.out B p nv mv s wr HBr.out HP5.out.a
  have HCtt := fun w' hb hS => HCu.out w3.heap.size q nw mw t w' hb hS
  obtain ⟨Rs, hRse⟩ : ∃ R, cutR s.now c = R := ⟨_, rfl⟩
  obtain ⟨Rt, hRte⟩ : ∃ R, cutR t.now c = R := ⟨_, rfl⟩
  rw [hRse] at HFx hRs HCs
  rw [hRte] at HFx hRt HCtt
  obtain ⟨l, ok⟩ := Rs
  obtain ⟨kk, is⟩ := Rt
  dsimp only at HFx hRs hRt HCs HCtt
  have HF1 : Hid (is = true → ok = true) := HFx.1
  have HF2 : Hid (is = true → ∀ (x : Nat) (d' : Dm) (v : Int), t.now[x]? = some d' → v ∈ d'.all → someB kk (x : Int) v = true → someB l (x : Int) v = true) := HFx.2
  have HRs : Hid (l.length ≤ 1000000) := hRs
  have HRt : Hid (kk.length ≤ 1000000) := hRt
  have HCs' : Hid (Calls Tryz.prog 10 #[.agg #[.int .i64 c.kind, .int .i64 c.op, vt, .int .i64 c.k, .int .i64 c.v, .int .i64 c.x, .int .i64 c.y, vx, vb, vr], .pointer (some ⟨p, 0, none⟩)] wr fun e w3 => ∃ a cap, e = .returned (.tuple #[.slice a l.length cap, .bool ok]) ∧ CtsAt w3 a l ∧ Below wr.heap.size wr w3) := HCs
  have HCt' : Hid (∀ w', Below W.heap.size W w' → StAt w3.heap.size w' q nw mw t → Calls Tryz.prog 10 #[.agg #[.int .i64 c.kind, .int .i64 c.op, vt, .int .i64 c.k, .int .i64 c.v, .int .i64 c.x, .int .i64 c.y, vx, vb, vr], .pointer (some ⟨q, 0, none⟩)] w' fun e w3 => ∃ a cap, e = .returned (.tuple #[.slice a kk.length cap, .bool is]) ∧ CtsAt w3 a kk ∧ Below w'.heap.size w' w3) := HCtt
  have HN32 : Hid (t.now.length ≤ 32) := HP5.out.b.n32
  clear HFx hRs hRt HCs HCtt hRse hRte HCu
  obtain ⟨_, q0, q1, q2, q3, q4, q5, q6, q7, q8, q9⟩ := HGc.out wr HBr.out
  go_upto_region 14 with (go_at_call 10; refine calls_at HCs'.out (by with_reducible rfl) (by with_reducible rfl) ?_; rintro e w6 ⟨a6, cp6, rfl, hc6, hb6⟩)
  have HB6 : Hid (Below W.heap.size W w6) := bl_next HBr.out hb6
  have HL6 : Hid (CtsAt w6 a6 l) := hc6
  have HP6 : Hid (Pr B w3.heap.size p q nv mv nw mw s t w6) := HP5.out.below hb6
  clear hc6 hb6 HCs' HP5 q0 q1 q2 q3 q4 q5 q6 q7 q8 q9
  obtain ⟨_, q0, q1, q2, q3, q4, q5, q6, q7, q8, q9⟩ := HGc.out w6 HB6.out
  have HC6 : Hid (Calls Tryz.prog 10 #[.agg #[.int .i64 c.kind, .int .i64 c.op, vt, .int .i64 c.k, .int .i64 c.v, .int .i64 c.x, .int .i64 c.y, vx, vb, vr], .pointer (some ⟨q, 0, none⟩)] w6 fun e w3 => ∃ a cap, e = .returned (.tuple #[.slice a kk.length cap, .bool is]) ∧ CtsAt w3 a kk ∧ Below w6.heap.size w6 w3) := HCt'.out w6 HB6.out HP6.out.b
  go_upto_region 15 with (go_at_call 10; refine calls_at HC6.out (by with_reducible rfl) (by with_reducible rfl) ?_; rintro e w7 ⟨a7, cp7, rfl, hc7, hb7⟩)
  have HB7 : Hid (Below W.heap.size W w7) := bl_next HB6.out hb7
  have HL7 : Hid (CtsAt w7 a6 l) := HL6.out.below hb7
  have HK7 : Hid (CtsAt w7 a7 kk) := hc7
  have HS7 : Hid (StAt w3.heap.size w7 q nw mw t) := HP6.out.b.below hb7
  clear hc7 hb7 HC6 HCt' HP6 HL6 q0 q1 q2 q3 q4 q5 q6 q7 q8 q9 HGc
  cases is with
  | false =>
    cases ok with
    | false =>
      go_wp2_with fail
      go_ret
      exact ⟨rfl, HWs.out _ HB7.out⟩
    | true =>
      go_wp2_with fail
      go_ret
      exact ⟨rfl, HWs.out _ HB7.out⟩
  | true =>
  obtain rfl := HF1.out rfl
  have HFx : Hid (∀ (x : Nat) (hx : x < t.now.length) (i : Nat) (hi : i < t.now[x].all.length), someB kk (x : Int) t.now[x].all[i] = true → someB l (x : Int) t.now[x].all[i] = true) := fun x hx i hi => HF2.out rfl x _ _ (List.getElem?_eq_getElem hx) (List.getElem_mem hi)
  have HVr : Hid (∀ w', Below w7.heap.size w7 w' → Calls Tryz.prog 17 #[.pointer (some ⟨q, 0, none⟩)] w' fun e w2 => e = .returned (.int .i64 (t.now.length : Int)) ∧ w2 = w') := fun w' hb => vars_any w3.heap.size q nw mw t w' (HS7.out.below hb)
  have HVs : Hid (∀ w' (x : Nat) (hx : x < t.now.length), Below w7.heap.size w7 w' → Calls Tryz.prog 18 #[.pointer (some ⟨q, 0, none⟩), .int .i64 (x : Int)] w' (VsOut t.now[x].all w')) := fun w' x hx hb => values_in w3.heap.size q nw mw t x hx w' (HS7.out.below hb) (HTz.out w' (bl_next HB7.out hb))
  have HSk : Hid (∀ (x v : Int) w', Below w7.heap.size w7 w' → Calls Tryz.prog 19 #[.slice a7 kk.length cp7, .int .i64 x, .int .i64 v] w' fun e w2 => e = .returned (.bool (someB kk x v)) ∧ Below w'.heap.size w' w2) := fun x v w' hb => some_any a7 cp7 kk x v w' (HK7.out.below hb) (by have := HRt.out; omega)
  have HSl : Hid (∀ (x v : Int) w', Below w7.heap.size w7 w' → Calls Tryz.prog 19 #[.slice a6 l.length cp6, .int .i64 x, .int .i64 v] w' fun e w2 => e = .returned (.bool (someB l x v)) ∧ Below w'.heap.size w' w2) := fun x v w' hb => some_any a6 cp6 l x v w' (HL7.out.below hb) (by have := HRs.out; omega)
  have HW7 : Hid (Below w.heap.size w w7) := HWs.out _ HB7.out
  clear HF1 HF2 HS7 HTz HL7 HK7 HB6 HBr HB7 HWs
  go_wp2_with fail
  go_loopw [16] (fun iv wz => ∃ (x : Nat), iv = .int .i64 (x : Int) ∧ x ≤ t.now.length ∧ Hid (Below w7.heap.size w7 wz)) (fun iv _ => t.now.length - (intOf iv).toNat)
  case atStart => exact ⟨0, rfl, Nat.zero_le _, Below.refl _ _⟩
  case round =>
  obtain ⟨x, rfl, hx, HBx⟩ := hrel
  rename World => wz
  have hn32 : t.now.length ≤ 32 := HN32.out
  by_cases hxn : x < t.now.length
  case neg =>
    have hxe : x = t.now.length := by omega
    subst hxe
    have hxI : ¬ (t.now.length : Int) < (t.now.length : Int) := by omega
    go_wp2_with (go_at_call 17; refine calls_at (HVr.out wz HBx.out) (by with_reducible rfl) (by with_reducible rfl) ?_; rintro e w8 ⟨rfl, rfl⟩)
    go_ret
    exact ⟨rfl, bl_next HW7.out HBx.out⟩
  case pos =>
  have hxI : (x : Int) < (t.now.length : Int) := by omega
  have HV := HVs.out
  have HVx : Hid (∀ w', Below w7.heap.size w7 w' → Calls Tryz.prog 18 #[.pointer (some ⟨q, 0, none⟩), .int .i64 (x : Int)] w' (VsOut t.now[x].all w')) := fun w' hb => HV w' x hxn hb
  have HFi : Hid (∀ (i : Nat) (hi : i < t.now[x].all.length), someB kk (x : Int) t.now[x].all[i] = true → someB l (x : Int) t.now[x].all[i] = true) := HFx.out x hxn
  have hvl : t.now[x].all.length ≤ 96 := dAll_len _
  obtain ⟨vs, hvs⟩ : ∃ vs, t.now[x].all = vs := ⟨_, rfl⟩
  have HFv : Hid (∀ (i : Nat) (hi : i < vs.length), someB kk (x : Int) vs[i] = true → someB l (x : Int) vs[i] = true) := by
    subst hvs
    exact HFi.out
  rw [hvs] at HVx hvl
  clear HV HFi hvs
  go_upto_region 21 with (first | (go_at_call 17; refine calls_at (HVr.out wz HBx.out) (by with_reducible rfl) (by with_reducible rfl) ?_; rintro e w8 ⟨rfl, h8⟩; (have HB8 : Hid (Below w7.heap.size w7 w8) := (by rw [h8]; exact HBx.out)); clear h8) | (go_at_call 18; refine calls_at (HVx.out w8 HB8.out) (by with_reducible rfl) (by with_reducible rfl) ?_; rintro e w9 ⟨uv, rfl, ho9, hb9⟩))
  obtain ⟨ua, uc, rfl, hul, huc⟩ := vs_ints ho9
  have HB9 : Hid (Below w7.heap.size w7 w9) := bl_next HB8.out hb9
  have HIc : Hid (∀ w' (k : Nat) (hk : k < vs.length), Below w9.heap.size w9 w' → ∃ b off, ua = some ⟨b, off, none⟩ ∧ w'.cell? ⟨b, off + k, none⟩ = some (.int .i64 vs[k])) := fun w' k hk hb => by
    obtain ⟨b, off, e, hlt, hcl⟩ := huc (by omega)
    exact ⟨b, off, e, (hb.cell (p := ⟨b, _, none⟩) hlt).trans (hcl k hk)⟩
  clear ho9 hb9 huc hul HB8 HBx HVx
  go_wp2_with fail
  go_loopw [18] (fun iv wy => ∃ (i : Nat), iv = .int .i64 (i : Int) ∧ i ≤ vs.length ∧ Hid (Below w9.heap.size w9 wy)) (fun iv _ => vs.length - (intOf iv).toNat)
  case atStart => exact ⟨0, rfl, Nat.zero_le _, Below.refl _ _⟩
  case round =>
  obtain ⟨i, rfl, hi, HBy⟩ := hrel
  rename World => wy
  by_cases hin : i < vs.length
  case neg =>
    have hie : i = vs.length := by omega
    subst hie
    have hiI : ¬ (vs.length : Int) < (vs.length : Int) := by omega
    go_wp2_with fail
    go_roundw
    case rel => exact ⟨x + 1, by go_num, hxn, bl_next HB9.out HBy.out⟩
    case measure => simp [intOf]; omega
  case pos =>
  have hiI : (i : Int) < (vs.length : Int) := by omega
  obtain ⟨b, off, rfl, u0⟩ := HIc.out wy i hin HBy.out
  have hFi := HFv.out i hin
  have HSk1 := HSk.out (x : Int) vs[i] wy (bl_next HB9.out HBy.out)
  have HSl1 := fun w' => HSl.out (x : Int) vs[i] w'
  have HIi := fun w' hb => HIc.out w' i hin hb
  obtain ⟨u, hu⟩ : ∃ u, vs[i] = u := ⟨_, rfl⟩
  rw [hu] at hFi HSk1 HSl1 u0 HIi
  obtain ⟨r1, hr1⟩ : ∃ r, someB kk (x : Int) u = r := ⟨_, rfl⟩
  obtain ⟨r2, hr2⟩ : ∃ r, someB l (x : Int) u = r := ⟨_, rfl⟩
  rw [hr1] at hFi HSk1
  rw [hr2] at hFi HSl1
  have HFi : Hid (r1 = true → r2 = true) := hFi
  have HSk2 : Hid (Calls Tryz.prog 19 #[.slice a7 kk.length cp7, .int .i64 (x : Int), .int .i64 u] wy fun e w2 => e = .returned (.bool r1) ∧ Below wy.heap.size wy w2) := HSk1
  have HSl2 : Hid (∀ w', Below w7.heap.size w7 w' → Calls Tryz.prog 19 #[.slice a6 l.length cp6, .int .i64 (x : Int), .int .i64 u] w' fun e w2 => e = .returned (.bool r2) ∧ Below w'.heap.size w' w2) := HSl1
  have HI2 : Hid (∀ w', Below w9.heap.size w9 w' → w'.cell? ⟨b, off + i, none⟩ = some (.int .i64 u)) := fun w' hb => by
    obtain ⟨b', o', e, hc⟩ := HIi w' hb
    injection e with e
    injection e with e1 e2
    subst e1 e2
    exact hc
  clear hFi HSk1 HSl1 HIi hu hr1 hr2 HIc HFv HSk HSl
  cases r1 with
  | false =>
    go_wp2_with (go_at_call 19; refine calls_at HSk2.out (by with_reducible rfl) (by with_reducible rfl) ?_; rintro e w10 ⟨rfl, hb10⟩)
    go_roundw
    case rel => exact ⟨i + 1, by go_num, hin, bl_next HBy.out hb10⟩
    case measure => simp [intOf]; omega
  | true =>
    obtain rfl := HFi.out rfl
    go_wp2_with (first | (go_at_call 19; refine calls_at HSk2.out (by with_reducible rfl) (by with_reducible rfl) ?_; rintro e w10 ⟨rfl, hb10⟩; (have HB10 : Hid (Below w9.heap.size w9 w10) := bl_next HBy.out hb10); clear hb10; (have u1 := HI2.out w10 HB10.out)) | (go_at_call 19; refine calls_at (HSl2.out w10 (bl_next HB9.out HB10.out)) (by with_reducible rfl) (by with_reducible rfl) ?_; rintro e w11 ⟨rfl, hb11⟩))
    go_roundw
    case rel => exact ⟨i + 1, by go_num, hin, bl_next HB10.out hb11⟩
    case measure => simp [intOf]; omega
end Go.Proofs.YtlcegpnnanhloaaGreatDoor
