/-
  DomTwo's walk.
-/
import Derived.Test.YtkipagelbcdhkaaGreatDoorJ44
import Derived.Test.YtkipagelbcdhkaaGreatDoorJ45
import Derived.Test.YtkipagelbcdhkaaGreatDoorJ28
import Derived.Test.YtkipagelbcdhkaaGreatDoorJ40
import Derived.Test.YtkipagelbcdhkaaGreatDoorDmOrdO
import Derived.Test.YtkipagelbcdhkaaGreatDoorJ42
namespace Go.Proofs.YtkipagelbcdhkaaGreatDoor
open Go.RowKit

/-- Two pairs, each in blocks of its own. -/
structure Prs (B P Q : Nat) (w : World) : Prop where
  ex : ∃ O T s t, PaAt B P O w s ∧ PaAt B Q T w t ∧ ∀ k, O k → ¬ T k
theorem Prs.swap {B P Q : Nat} {w : World} (h : Prs B P Q w) : Prs B Q P w := by
  obtain ⟨O, T, s, t, h1, h2, h3⟩ := h.ex
  exact ⟨T, O, t, s, h2, h1, fun k a b => h3 k b a⟩
theorem Prs.below {B P Q : Nat} {w w' : World} (h : Prs B P Q w) (hb : Below w.heap.size w w') : Prs B P Q w' := by
  obtain ⟨O, T, s, t, h1, h2, h3⟩ := h.ex
  exact ⟨O, T, s, t, h1.below hb, h2.below hb, h3⟩
theorem PaAt.less {B C P : Nat} {O : Nat → Prop} {w : World} {s : St} (h : PaAt B P O w s) (hc : C ≤ B) : PaAt C P O w s := by
  obtain ⟨p, nv, mv, r, S, Bs, h1, h2, h3, h4, h5⟩ := h.ex
  exact { h with ex := ⟨p, nv, mv, r, S, Bs, h1, h2, { h3 with lo := fun k hk => Nat.le_trans hc (h3.lo k hk) }, Nat.le_trans hc h4, h5⟩, lo := fun k hk => Nat.le_trans hc (h.lo k hk) }
/-- A cut of one of them. -/
theorem prs_cut {B P Q : Nat} {w : World} (k x v n : Int) (h : Prs B P Q w) : Calls Tryz.prog 9 #[.pointer (some ⟨P, 0, none⟩), .agg #[.int .i64 1, .int .i64 k, .int .i64 x, .int .i64 v, .int .i64 n]] w fun e w' => (∃ b, e = .returned (.bool b)) ∧ Prs B P Q w' ∧ Below B w w' := by
  obtain ⟨O, T, s, t, h1, h2, h3⟩ := h.ex
  refine (plays_cut k x v n w h1).mono fun e w' hq => ?_
  obtain ⟨rfl, O', q1, q2, q3⟩ := hq
  refine ⟨⟨true, rfl⟩, ⟨O', T, _, t, q1, h2.keep q2.off.size (fun j hj => q2.off.block j (h2.lt j hj) (fun e => h3 j e hj)), fun j hj hT => ?_⟩, q2.below⟩
  rcases q3 j hj with a | a
  · exact h3 j a hT
  · have := h2.lt j hT; omega
/-- What the two are asked at last. -/
theorem Prs.last {B P Q : Nat} {w : World} (h : Prs B P Q w) : ∃ p q r u b, ∀ w', Below w.heap.size w w' → (Tz w' → (w'.cell? ⟨P, 0, none⟩ = some (.pointer (some ⟨p, 0, none⟩)) ∧ w'.cell? ⟨P, 1, none⟩ = some (.pointer (some ⟨r, 0, none⟩)) ∧ w'.cell? ⟨Q, 0, none⟩ = some (.pointer (some ⟨q, 0, none⟩)) ∧ w'.cell? ⟨Q, 1, none⟩ = some (.pointer (some ⟨u, 0, none⟩)))
    ∧ (Calls Tryz.prog 10 #[.pointer (some ⟨r, 0, none⟩), .pointer (some ⟨u, 0, none⟩)] w' fun e w2 => e = .returned (.bool b) ∧ Below w'.heap.size w' w2)
    ∧ (Calls Tryz.prog 11 #[.pointer (some ⟨p, 0, none⟩), .pointer (some ⟨q, 0, none⟩)] w' fun e w2 => e = .returned (.bool b) ∧ Below w'.heap.size w' w2)
    ∧ (Calls Tryz.prog 11 #[.pointer (some ⟨q, 0, none⟩), .pointer (some ⟨p, 0, none⟩)] w' fun e w2 => e = .returned (.bool b) ∧ Below w'.heap.size w' w2)
    ∧ (Calls Tryz.prog 11 #[.pointer (some ⟨p, 0, none⟩), .pointer (some ⟨p, 0, none⟩)] w' fun e w2 => e = .returned (.bool true) ∧ Below w'.heap.size w' w2)) := by
  obtain ⟨O, T, s, t, h1, h2, _⟩ := h.ex
  obtain ⟨p, nv, mv, r, S, Bs, a1, a2, a3, _⟩ := h1.ex
  obtain ⟨q, nw, mw, u, S', Bt, b1, b2, b3, _⟩ := h2.ex
  refine ⟨p, q, r, u, decide (s.now.map Dm.all = t.now.map Dm.all), fun w' hb hT => ⟨?_, ?_, ?_, ?_, ?_⟩⟩
  · have f1 := (hb.block P (h1.lt P h1.op)).trans a1
    have f2 := (hb.block Q (h2.lt Q h2.op)).trans b1
    exact ⟨cell_of f1 0, cell_of f1 1, cell_of f2 0, cell_of f2 1⟩
  · exact rSame_any w' (a3.below hb) (b3.below hb)
  · exact same_stores _ p _ q _ _ _ _ s t w' (a2.below hb) (b2.below hb) h1.al h2.al hT
  · have := same_stores _ q _ p _ _ _ _ t s w' (b2.below hb) (a2.below hb) h2.al h1.al hT
    rw [show decide (t.now.map Dm.all = s.now.map Dm.all) = decide (s.now.map Dm.all = t.now.map Dm.all) from decide_eq_decide.2 ⟨Eq.symm, Eq.symm⟩] at this
    exact this
  · have := same_stores _ p _ p _ _ _ _ s s w' (a2.below hb) (a2.below hb) h1.al h1.al hT
    rw [decide_eq_true rfl] at this
    exact this

theorem Prs.of {B P Q : Nat} {w w' : World} {O T : Nat → Prop} {s t : St} (h1 : PaAt B P O w s) (h2 : PaAt w.heap.size Q T w' t) (hb : Below w.heap.size w w') : Prs B P Q w' :=
  ⟨O, T, s, t, h1.below hb, h2.less (Nat.le_of_lt (Nat.lt_of_le_of_lt (h1.lo P h1.op) (h1.lt P h1.op))), fun k a b => by
    have := h1.lt k a
    have := h2.lo k b
    omega⟩

set_option maxRecDepth 10000 in
set_option maxHeartbeats 4000000 in
theorem domTwo_walk (m n : Md.Mo) (vv vc vg uv uc ug : Value) (la lb : Option Addr) (ca cb : Nat) (L M : List Ct) (w : World) (h : MoAt w m vv vc vg) (h' : MoAt w n uv uc ug) (hL : ∀ w', Below w.heap.size w w' → CtsAt w' la L) (hM : ∀ w', Below w.heap.size w w' → CtsAt w' lb M) (hf : ∀ c ∈ m.cons, c.terms.length * 16 ≤ 140737488355328 ∧ c.xs.length * 8 ≤ 140737488355328 ∧ c.table.length * 8 ≤ 140737488355328) (hf' : ∀ c ∈ n.cons, c.terms.length * 16 ≤ 140737488355328 ∧ c.xs.length * 8 ≤ 140737488355328 ∧ c.table.length * 8 ≤ 140737488355328) (hT : Tz w) (hs : 0 < w.heap.size) : Calls Tryz.prog 4 #[moVal m vv vc vg, moVal n uv uc ug, .slice la L.length ca, .slice lb M.length cb] w fun e w' => e = .returned (.bool true) ∧ Below w.heap.size w w' := by
  have HL : Hid (∀ w', Below w.heap.size w w' → CtsAt w' la L) := hL
  have HLM : Hid (∀ w', Below w.heap.size w w' → CtsAt w' lb M) := hM
  obtain ⟨W, hW⟩ : ∃ W, (w.alloc (.cells #[vv, vc, .bool m.has, vg] 26)).alloc (.cells #[uv, uc, .bool n.has, ug] 26) = W := ⟨_, rfl⟩
  have hb0 : Below w.heap.size w W := by rw [← hW]; exact ((Below.refl _ _).alloc (Nat.le_refl _) _).alloc (by simp) _
  have g0 : W.heap[w.heap.size]? = some (.cells #[vv, vc, .bool m.has, vg] 26 (0, 0)) := by rw [← hW, heap_alloc_old (w.alloc _) _ (by simp)]; exact heap_alloc_new w _
  have g1 : W.heap[w.heap.size + 1]? = some (.cells #[uv, uc, .bool n.has, ug] 26 (0, 0)) := by rw [← hW]; exact heap_alloc2_new w _ _
  have hlt := (Array.getElem?_eq_some_iff.1 g0).1
  have hlt1 := (Array.getElem?_eq_some_iff.1 g1).1
  have hsW : 0 < W.heap.size := Nat.lt_of_lt_of_le hs hb0.size
  have HB : Hid (Below w.heap.size w W) := hb0
  have HM : Hid (∀ w', Below W.heap.size W w' → w'.cell? ⟨w.heap.size, 0, none⟩ = some vv ∧ w'.cell? ⟨w.heap.size, 1, none⟩ = some vc ∧ w'.cell? ⟨w.heap.size, 2, none⟩ = some (.bool m.has) ∧ w'.cell? ⟨w.heap.size, 3, none⟩ = some vg ∧ w'.cell? ⟨w.heap.size + 1, 0, none⟩ = some uv ∧ w'.cell? ⟨w.heap.size + 1, 1, none⟩ = some uc ∧ w'.cell? ⟨w.heap.size + 1, 2, none⟩ = some (.bool n.has) ∧ w'.cell? ⟨w.heap.size + 1, 3, none⟩ = some ug ∧ Below W.heap.size W w') := fun w' hb => by
    have f0 := (hb.block _ hlt).trans g0
    have f1 := (hb.block _ hlt1).trans g1
    exact ⟨cell_of f0 0, cell_of f0 1, cell_of f0 2, cell_of f0 3, cell_of f1 0, cell_of f1 1, cell_of f1 2, cell_of f1 3, hb⟩
  have HMo : Hid (∀ w', Below W.heap.size W w' → MoAt w' m vv vc vg ∧ MoAt w' n uv uc ug) := fun w' hb => ⟨(h.below hb0).below hb, (h'.below hb0).below hb⟩
  have HTz : Hid (∀ w', Below W.heap.size W w' → Tz w') := fun w' hb => (hT.below hb0 hs).below hb hsW
  have HK : Hid (Calls Tryz.prog 5 #[] W fun e w' => e = .returned (.bool true) ∧ Below W.heap.size W w') := known_any W (hT.below hb0 hs) hsW
  have HF : Hid (∀ c ∈ m.cons, c.terms.length * 16 ≤ 140737488355328 ∧ c.xs.length * 8 ≤ 140737488355328 ∧ c.table.length * 8 ≤ 140737488355328) := hf
  have HF' : Hid (∀ c ∈ n.cons, c.terms.length * 16 ≤ 140737488355328 ∧ c.xs.length * 8 ≤ 140737488355328 ∧ c.table.length * 8 ≤ 140737488355328) := hf'
  clear hb0 g0 g1 hlt hlt1 h h' hL hM hT hf hf'
  unfold moVal
  go_enter Tryz.func4, Tryz.ntmps4
  go_wp2_with fail
  refine calls_at HK.out (by with_reducible rfl) (by with_reducible rfl) ?_
  rintro e w1 ⟨rfl, hb1⟩
  have HB1 : Hid (Below W.heap.size W w1) := hb1
  obtain ⟨c0, c1, c2, c3, d0, d1, d2, d3, _⟩ := HM.out w1 hb1
  have HS1 : Hid (Calls Tryz.prog 6 #[.agg #[vv, vc, .bool m.has, vg], .slice none 0 0] w1 (SmOut m 0 w1)) := small_any m vv vc vg none 0 0 w1 (HMo.out w1 hb1).1
  clear hb1 hW
  go_wp2_with fail
  refine calls_at HS1.out (by with_reducible rfl) (by with_reducible rfl) ?_
  rintro e w2 ⟨⟨sb1, rfl, hsb1⟩, hb2⟩
  have HB2 : Hid (Below W.heap.size W w2) := bl_next HB1.out hb2
  clear hb2 c0 c1 c2 c3 d0 d1 d2 d3
  cases sb1 with
  | false =>
    clear hsb1
    go_wp2_with fail
    go_ret
    exact ⟨rfl, HB.out.trans (HB2.out.mono HB.out.size)⟩
  | true =>
  have hsm := hsb1 rfl
  have HFm : Hid (MoFit m) := ⟨hsm.1, hsm.2.1, hsm.2.2.1, HF.out⟩
  clear hsb1 hsm
  obtain ⟨c0, c1, c2, c3, d0, d1, d2, d3, _⟩ := HM.out w2 HB2.out
  have HS2 : Hid (Calls Tryz.prog 6 #[.agg #[uv, uc, .bool n.has, ug], .slice none 0 0] w2 (SmOut n 0 w2)) := small_any n uv uc ug none 0 0 w2 (HMo.out w2 HB2.out).2
  go_wp2_with fail
  refine calls_at HS2.out (by with_reducible rfl) (by with_reducible rfl) ?_
  rintro e w3 ⟨⟨sb2, rfl, hsb2⟩, hb3⟩
  have HB3 : Hid (Below W.heap.size W w3) := bl_next HB2.out hb3
  clear hb3 c0 c1 c2 c3 d0 d1 d2 d3
  cases sb2 with
  | false =>
    clear hsb2
    go_wp2_with fail
    go_ret
    exact ⟨rfl, HB.out.trans (HB3.out.mono HB.out.size)⟩
  | true =>
  have hsm := hsb2 rfl
  have HFn : Hid (MoFit n) := ⟨hsm.1, hsm.2.1, hsm.2.2.1, HF'.out⟩
  clear hsb2 hsm
  by_cases hl : 300 < L.length
  · have hlI : 300 < (L.length : Int) := by omega
    go_wp2_with fail
    go_ret
    exact ⟨rfl, HB.out.trans (HB3.out.mono HB.out.size)⟩
  have hlI : (L.length : Int) ≤ 300 := by omega
  by_cases hm : 300 < M.length
  · have hmI : 300 < (M.length : Int) := by omega
    go_wp2_with fail
    go_ret
    exact ⟨rfl, HB.out.trans (HB3.out.mono HB.out.size)⟩
  have hmI : (M.length : Int) ≤ 300 := by omega
  have HBg : Hid (∀ w', Below W.heap.size W w' → Calls Tryz.prog 7 #[.agg #[vv, vc, .bool m.has, vg]] w' (BgOut m w')) := fun w' hb => begin_any m vv vc vg w' (HMo.out w' hb).1 HFm.out (Nat.lt_of_lt_of_le hsW hb.size)
  have HBh : Hid (∀ w', Below W.heap.size W w' → Calls Tryz.prog 7 #[.agg #[uv, uc, .bool n.has, ug]] w' (BgOut n w')) := fun w' hb => begin_any n uv uc ug w' (HMo.out w' hb).2 HFn.out (Nat.lt_of_lt_of_le hsW hb.size)
  go_wp2_with fail
  · go_ret
    exact ⟨rfl, HB.out.trans (HB3.out.mono HB.out.size)⟩
  go_cut [9, 10] from 34 to 113 (fun s9 s10 wx => ∃ P Q, s9 = .pointer (some ⟨P, 0, none⟩) ∧ s10 = .pointer (some ⟨Q, 0, none⟩) ∧ Hid (Prs W.heap.size P Q wx) ∧ Hid (Below W.heap.size W wx))
  case first =>
    go_region_held3 (fun w' => w'.cell? ⟨w.heap.size, 0, none⟩ = some vv ∧ w'.cell? ⟨w.heap.size, 1, none⟩ = some vc ∧ w'.cell? ⟨w.heap.size, 2, none⟩ = some (.bool m.has) ∧ w'.cell? ⟨w.heap.size, 3, none⟩ = some vg ∧ w'.cell? ⟨w.heap.size + 1, 0, none⟩ = some uv ∧ w'.cell? ⟨w.heap.size + 1, 1, none⟩ = some uc ∧ w'.cell? ⟨w.heap.size + 1, 2, none⟩ = some (.bool n.has) ∧ w'.cell? ⟨w.heap.size + 1, 3, none⟩ = some ug ∧ Below W.heap.size W w')
      (first | exact HM.out _ HB3.out.drew | exact HM.out _ HB6.out | exact HM.out _ HB5.out | assumption)
      (first
        | (go_at_call 7; refine calls_at (HBh.out w5 HB5.out) (by with_reducible rfl) (by with_reducible rfl) ?_; rintro e w6 ⟨Q, T, rfl, hA6, hb6⟩; (have HP6 : Hid (Prs W.heap.size P Q w6) := Prs.of HA5.out hA6 hb6); (have HB6 : Hid (Below W.heap.size W w6) := bl_next HB5.out hb6); clear hA6 hb6)
        | (go_at_call 7; refine calls_at (HBg.out w3.drew HB3.out.drew) (by with_reducible rfl) (by with_reducible rfl) ?_; rintro e w5 ⟨P, O, rfl, hA5, hb5⟩; (have HA5 : Hid (PaAt W.heap.size P O w5 (newS m)) := hA5.less HB3.out.size); (have HB5 : Hid (Below W.heap.size W w5) := bl_next HB3.out.drew hb5); clear hA5 hb5))
    go_wp2_with fail
    go_meet
    exact ⟨P, Q, rfl, rfl, HP6, HB6⟩
  case rest =>
    obtain ⟨P, Q, rfl, rfl, HP, HBx⟩ := hcut
    rename World => wx
    go_wp2_with fail
    go_loopw [11] (fun iv wr => ∃ k : Nat, iv = .int .i64 (k : Int) ∧ k ≤ L.length ∧ Hid (Prs W.heap.size P Q wr) ∧ Hid (Below W.heap.size W wr)) (fun iv _ => L.length - (intOf iv).toNat)
    case atStart => exact ⟨0, rfl, Nat.zero_le _, HP, HBx⟩
    case round =>
    obtain ⟨k, rfl, hk, HPr, HBr⟩ := hrel
    by_cases hkn : k < L.length
    · have hkI : (k : Int) < (L.length : Int) := by omega
      obtain ⟨b, off, rfl, f0, f1, f2⟩ := HL.out wr (HB.out.trans (HBr.out.mono HB.out.size)) k hkn
      obtain ⟨c, hc⟩ : ∃ c, L[k] = c := ⟨_, rfl⟩
      rw [hc] at f0 f1 f2
      clear hc
      have HCt : Hid (Calls Tryz.prog 9 #[.pointer (some ⟨P, 0, none⟩), .agg #[.int .i64 1, .int .i64 c.k, .int .i64 c.x, .int .i64 c.v, .int .i64 0]] wr fun e w' => (∃ b, e = .returned (.bool b)) ∧ Prs W.heap.size P Q w' ∧ Below W.heap.size wr w') := prs_cut c.k c.x c.v 0 HPr.out
      go_wp2_with fail
      refine calls_at HCt.out (by with_reducible rfl) (by with_reducible rfl) ?_
      rintro e w4 ⟨⟨b4, rfl⟩, hP4, hb4⟩
      have HP4 : Hid (Prs W.heap.size P Q w4) := hP4
      have HB4 : Hid (Below W.heap.size W w4) := HBr.out.trans hb4
      clear hP4 hb4
      go_wp2_with fail
      go_roundw
      case rel => exact ⟨k + 1, by go_num, hkn, HP4, HB4⟩
      case measure => simp [intOf]; omega
    · have hke : k = L.length := by omega
      subst hke
      have hkI : ¬ (L.length : Int) < (L.length : Int) := by omega
      go_wp2_with fail
      go_loopw [12] (fun iv wz => ∃ k : Nat, iv = .int .i64 (k : Int) ∧ k ≤ M.length ∧ Hid (Prs W.heap.size P Q wz) ∧ Hid (Below W.heap.size W wz)) (fun iv _ => M.length - (intOf iv).toNat)
      case atStart => exact ⟨0, rfl, Nat.zero_le _, HPr, HBr⟩
      case round =>
      clear HPr HBr
      obtain ⟨k, rfl, hk, HPr, HBr⟩ := hrel
      rename World => wz
      by_cases hkn : k < M.length
      · have hkI : (k : Int) < (M.length : Int) := by omega
        obtain ⟨b, off, rfl, f0, f1, f2⟩ := HLM.out wz (HB.out.trans (HBr.out.mono HB.out.size)) k hkn
        obtain ⟨c, hc⟩ : ∃ c, M[k] = c := ⟨_, rfl⟩
        rw [hc] at f0 f1 f2
        clear hc
        have HCt : Hid (Calls Tryz.prog 9 #[.pointer (some ⟨Q, 0, none⟩), .agg #[.int .i64 1, .int .i64 c.k, .int .i64 c.x, .int .i64 c.v, .int .i64 0]] wz fun e w' => (∃ b, e = .returned (.bool b)) ∧ Prs W.heap.size Q P w' ∧ Below W.heap.size wz w') := prs_cut c.k c.x c.v 0 HPr.out.swap
        go_wp2_with fail
        refine calls_at HCt.out (by with_reducible rfl) (by with_reducible rfl) ?_
        rintro e w4 ⟨⟨b4, rfl⟩, hP4, hb4⟩
        have HP4 : Hid (Prs W.heap.size P Q w4) := hP4.swap
        have HB4 : Hid (Below W.heap.size W w4) := HBr.out.trans hb4
        clear hP4 hb4
        go_wp2_with fail
        go_roundw
        case rel => exact ⟨k + 1, by go_num, hkn, HP4, HB4⟩
        case measure => simp [intOf]; omega
      · have hke : k = M.length := by omega
        subst hke
        have hkI : ¬ (M.length : Int) < (M.length : Int) := by omega
        obtain ⟨p, q, r, u, bb, hq⟩ := HPr.out.last
        have HZ : Hid (∀ w', Below W.heap.size W w' → Below wz.heap.size wz w' → (w'.cell? ⟨P, 0, none⟩ = some (.pointer (some ⟨p, 0, none⟩)) ∧ w'.cell? ⟨P, 1, none⟩ = some (.pointer (some ⟨r, 0, none⟩)) ∧ w'.cell? ⟨Q, 0, none⟩ = some (.pointer (some ⟨q, 0, none⟩)) ∧ w'.cell? ⟨Q, 1, none⟩ = some (.pointer (some ⟨u, 0, none⟩)) ∧ Below wz.heap.size wz w')) := fun w' h1 h2 => by
          obtain ⟨y0, y1, y2, y3⟩ := (hq w' h2 (HTz.out w' h1)).1
          exact ⟨y0, y1, y2, y3, h2⟩
        have HY : Hid (∀ w', Below wz.heap.size wz w' → (w'.cell? ⟨P, 0, none⟩ = some (.pointer (some ⟨p, 0, none⟩)) ∧ w'.cell? ⟨P, 1, none⟩ = some (.pointer (some ⟨r, 0, none⟩)) ∧ w'.cell? ⟨Q, 0, none⟩ = some (.pointer (some ⟨q, 0, none⟩)) ∧ w'.cell? ⟨Q, 1, none⟩ = some (.pointer (some ⟨u, 0, none⟩)) ∧ Below wz.heap.size wz w')) := fun w' h => HZ.out w' (HBr.out.trans (h.mono HBr.out.size)) h
        have HTq : Hid (∀ w', Below wz.heap.size wz w' → Tz w') := fun w' h => HTz.out w' (HBr.out.trans (h.mono HBr.out.size))
        have HC0 : Hid (∀ w', Below wz.heap.size wz w' → Calls Tryz.prog 10 #[.pointer (some ⟨r, 0, none⟩), .pointer (some ⟨u, 0, none⟩)] w' fun e w2 => e = .returned (.bool bb) ∧ Below w'.heap.size w' w2) := fun w' h => (hq w' h (HTq.out w' h)).2.1
        have HC1 : Hid (∀ w', Below wz.heap.size wz w' → Calls Tryz.prog 11 #[.pointer (some ⟨p, 0, none⟩), .pointer (some ⟨q, 0, none⟩)] w' fun e w2 => e = .returned (.bool bb) ∧ Below w'.heap.size w' w2) := fun w' h => (hq w' h (HTq.out w' h)).2.2.1
        have HC2 : Hid (∀ w', Below wz.heap.size wz w' → Calls Tryz.prog 11 #[.pointer (some ⟨q, 0, none⟩), .pointer (some ⟨p, 0, none⟩)] w' fun e w2 => e = .returned (.bool bb) ∧ Below w'.heap.size w' w2) := fun w' h => (hq w' h (HTq.out w' h)).2.2.2.1
        have HC3 : Hid (∀ w', Below wz.heap.size wz w' → Calls Tryz.prog 11 #[.pointer (some ⟨p, 0, none⟩), .pointer (some ⟨p, 0, none⟩)] w' fun e w2 => e = .returned (.bool true) ∧ Below w'.heap.size w' w2) := fun w' h => (hq w' h (HTq.out w' h)).2.2.2.2
        clear hq HZ
        have hbb : (bb == bb) = true := by simp
        go_wp2_with fail
        go_region_held3 (fun w' => w'.cell? ⟨P, 0, none⟩ = some (.pointer (some ⟨p, 0, none⟩)) ∧ w'.cell? ⟨P, 1, none⟩ = some (.pointer (some ⟨r, 0, none⟩)) ∧ w'.cell? ⟨Q, 0, none⟩ = some (.pointer (some ⟨q, 0, none⟩)) ∧ w'.cell? ⟨Q, 1, none⟩ = some (.pointer (some ⟨u, 0, none⟩)) ∧ Below wz.heap.size wz w')
          (first | exact HY.out _ (Below.refl _ _).drew | exact HY.out _ (bl_next (And.right (And.right (And.right (And.right (by assumption))))) (by assumption)) | assumption)
          (first
            | (go_at_call 10; refine calls_at (HC0.out _ (And.right (And.right (And.right (And.right (by assumption)))))) (by with_reducible rfl) (by with_reducible rfl) ?_; rintro e w5 ⟨rfl, hb5⟩))
        have HB5 : Hid (Below wz.heap.size wz w5) := And.right (And.right (And.right (And.right (by assumption))))
        go_wp2_with fail
        go_region_held3 (fun w' => w'.cell? ⟨P, 0, none⟩ = some (.pointer (some ⟨p, 0, none⟩)) ∧ w'.cell? ⟨P, 1, none⟩ = some (.pointer (some ⟨r, 0, none⟩)) ∧ w'.cell? ⟨Q, 0, none⟩ = some (.pointer (some ⟨q, 0, none⟩)) ∧ w'.cell? ⟨Q, 1, none⟩ = some (.pointer (some ⟨u, 0, none⟩)) ∧ Below wz.heap.size wz w')
          (first | exact HY.out _ HB5.out.drew | exact HY.out _ (bl_next (And.right (And.right (And.right (And.right (by assumption))))) (by assumption)) | assumption)
          (first
            | (go_at_call 11; refine calls_at (HC1.out _ (And.right (And.right (And.right (And.right (by assumption)))))) (by with_reducible rfl) (by with_reducible rfl) ?_; rintro e w6 ⟨rfl, hb6⟩)
            | (go_at_call 11; refine calls_at (HC2.out _ (And.right (And.right (And.right (And.right (by assumption)))))) (by with_reducible rfl) (by with_reducible rfl) ?_; rintro e w7 ⟨rfl, hb7⟩)
            | (go_at_call 11; refine calls_at (HC3.out _ (And.right (And.right (And.right (And.right (by assumption)))))) (by with_reducible rfl) (by with_reducible rfl) ?_; rintro e w8 ⟨rfl, hb8⟩))
        have HB8 : Hid (Below wz.heap.size wz w8) := And.right (And.right (And.right (And.right (by assumption))))
        go_wp2_with fail
        go_ret
        exact ⟨rfl, HB.out.trans ((HBr.out.trans (HB8.out.mono HBr.out.size)).mono HB.out.size)⟩
end Go.Proofs.YtkipagelbcdhkaaGreatDoor
