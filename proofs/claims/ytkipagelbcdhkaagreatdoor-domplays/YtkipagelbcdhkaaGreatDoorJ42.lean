/-
  Put together: DmLight, DmCopyL.
-/
import Derived.Test.YtkipagelbcdhkaaGreatDoorJ39
import Derived.Test.YtkipagelbcdhkaaGreatDoorJ25
namespace Go.Proofs.YtkipagelbcdhkaaGreatDoor
open Go.RowKit

set_option maxRecDepth 10000 in
set_option maxHeartbeats 1000000 in
theorem light_any (m : Md.Mo) (vv vc vg : Value) (w : World) (h : MoAt w m vv vc vg) : Calls Tryz.prog 25 #[moVal m vv vc vg] w fun e w' => (∃ b, e = .returned (.bool b)) ∧ Below w.heap.size w w' := by
  obtain ⟨va, vp, rfl, hvm, _, hvo⟩ := id h.v
  obtain ⟨ca, cp, rfl, hcm, hco⟩ := id h.c
  have HVC : Hid (∀ w', Below w.heap.size w w' → ∀ j (hj : j < m.vars.length), ∃ b off, va = some ⟨b, off, none⟩ ∧ w'.cell? ⟨b, off + j * 3, none⟩ = some (.string m.vars[j].name)) := fun w' hb j hj => by
    obtain ⟨b, off, e1, e2, e3⟩ := hvo (by omega)
    exact ⟨b, off, e1, (hb.cell (p := ⟨b, off + j * 3, none⟩) e2).trans (e3 j hj).1⟩
  have HCC : Hid (∀ w', Below w.heap.size w w' → ∀ j (hj : j < m.cons.length), ∃ b off ta tl tc xa xl xc ba bl bc, ca = some ⟨b, off, none⟩ ∧ w'.cell? ⟨b, off + j * 10 + 2, none⟩ = some (.slice ta tl tc) ∧ w'.cell? ⟨b, off + j * 10 + 7, none⟩ = some (.slice xa xl xc) ∧ w'.cell? ⟨b, off + j * 10 + 8, none⟩ = some (.slice ba bl bc)) := fun w' hb j hj => by
    obtain ⟨b, off, e1, e2, e3⟩ := hco (by omega)
    obtain ⟨vt, vx, vb, vr, f1, f2⟩ := e3 j hj
    obtain ⟨ta, tc, rfl, _⟩ := f1.t.form
    obtain ⟨xa, xc, rfl, _⟩ := f1.x.form
    obtain ⟨ba, bc, rfl, _⟩ := f1.b.form
    obtain ⟨_, _, q2, _, _, _, _, q7, q8, _⟩ := f2
    exact ⟨b, off, _, _, _, _, _, _, _, _, _, e1, (hb.cell (p := ⟨b, off + j * 10 + 2, none⟩) e2).trans q2, (hb.cell (p := ⟨b, off + j * 10 + 7, none⟩) e2).trans q7, (hb.cell (p := ⟨b, off + j * 10 + 8, none⟩) e2).trans q8⟩
  obtain ⟨ga, gp, rfl, hgm⟩ := h.g.form
  obtain ⟨W, hW⟩ : ∃ W, w.alloc (.cells #[.slice va m.vars.length vp, .slice ca m.cons.length cp, .bool m.has, .slice ga m.goal.length gp] 26) = W := ⟨_, rfl⟩
  have hb0 : Below w.heap.size w W := by rw [← hW]; exact (Below.refl _ _).alloc (Nat.le_refl _) _
  have g0 : W.heap[w.heap.size]? = some (.cells #[.slice va m.vars.length vp, .slice ca m.cons.length cp, .bool m.has, .slice ga m.goal.length gp] 26 (0, 0)) := by rw [← hW]; exact heap_alloc_new w _
  have hlt := (Array.getElem?_eq_some_iff.1 g0).1
  have HB : Hid (Below w.heap.size w W) := hb0
  have HM : Hid (∀ w', Below W.heap.size W w' → w'.cell? ⟨w.heap.size, 0, none⟩ = some (.slice va m.vars.length vp) ∧ w'.cell? ⟨w.heap.size, 1, none⟩ = some (.slice ca m.cons.length cp)) := fun w' hb => ⟨(hb.cell (p := ⟨w.heap.size, 0, none⟩) hlt).trans (cell_of g0 0), (hb.cell (p := ⟨w.heap.size, 1, none⟩) hlt).trans (cell_of g0 1)⟩
  unfold maxLen at hvm hcm
  clear hb0 g0 hlt h hvo hco
  unfold moVal
  go_enter Tryz.func25, Tryz.ntmps25
  go_wp2_with fail
  go_loopw [3, 4] (fun nv iv wr => ∃ (k : Nat) (n : Int), nv = .int .i64 n ∧ iv = .int .i64 (k : Int) ∧ k ≤ m.cons.length ∧ Hid (Below W.heap.size W wr)) (fun _ iv _ => m.cons.length - (intOf iv).toNat)
  case atStart => exact ⟨0, 0, rfl, rfl, Nat.zero_le _, Below.refl _ _⟩
  case round =>
    obtain ⟨k, n, rfl, rfl, hk, HBr⟩ := hrel
    obtain ⟨d0, d1⟩ := HM.out wr HBr.out
    by_cases hgo : k < m.cons.length ∧ n ≤ 65536
    · obtain ⟨hkn, hn⟩ := hgo
      have hkI : (k : Int) < (m.cons.length : Int) := by omega
      obtain ⟨b, off, ta, tl, tc, xa, xl, xc, ba, bl, bc, rfl, x2, x7, x8⟩ := HCC.out wr (HB.out.trans (HBr.out.mono HB.out.size)) k hkn
      go_wp2_with fail
      go_region
      have HBd : Hid (Below W.heap.size W wr.drew) := HBr.out.drew
      go_wp2_with fail
      go_roundw
      case rel => exact ⟨k + 1, _, rfl, by go_num, hkn, HBd⟩
      case measure => simp [intOf]; omega
    · have hout : ((k : Int) < (m.cons.length : Int) ∧ 65536 < n) ∨ (m.cons.length : Int) ≤ (k : Int) := by omega
      rcases hout with ⟨ho1, ho2⟩ | ho1
      all_goals
        go_wp2_with fail
        go_loopw [3, 5] (fun nv iv wr => ∃ (k : Nat) (n : Int), nv = .int .i64 n ∧ iv = .int .i64 (k : Int) ∧ k ≤ m.vars.length ∧ Hid (Below W.heap.size W wr)) (fun _ iv _ => m.vars.length - (intOf iv).toNat)
        case atStart => exact ⟨0, n, rfl, rfl, Nat.zero_le _, HBr⟩
        case round =>
          obtain ⟨k2, n2, rfl, rfl, hk2, HB2⟩ := hrel
          obtain ⟨f0, f1⟩ := HM.out wr HB2.out
          have hHB2 : Hid (Below w.heap.size w wr) := HB.out.trans (HB2.out.mono HB.out.size)
          by_cases hgo2 : k2 < m.vars.length ∧ n2 ≤ 65536
          · obtain ⟨hkn2, hn2⟩ := hgo2
            have hkI2 : (k2 : Int) < (m.vars.length : Int) := by omega
            obtain ⟨b, off, rfl, y0⟩ := HVC.out wr hHB2.out k2 hkn2
            go_wp2_with fail
            go_roundw
            case rel => exact ⟨k2 + 1, _, rfl, by go_num, hkn2, HB2⟩
            case measure => simp [intOf]; omega
          · have hout2 : ((k2 : Int) < (m.vars.length : Int) ∧ 65536 < n2) ∨ (m.vars.length : Int) ≤ (k2 : Int) := by omega
            rcases hout2 with ⟨hp1, hp2⟩ | hp1
            all_goals
              go_wp2_with fail
              go_ret
              exact ⟨⟨_, rfl⟩, hHB2.out⟩

/-- What small leaves. -/
def SmOut (m : Md.Mo) (ln : Nat) (w : World) (e : Ending) (w' : World) : Prop := (∃ b, e = .returned (.bool b) ∧ (b = true → m.vars.length ≤ 300 ∧ m.cons.length ≤ 300 ∧ m.goal.length ≤ 300 ∧ ln ≤ 300)) ∧ Below w.heap.size w w'
set_option maxRecDepth 10000 in
set_option maxHeartbeats 1000000 in
theorem small_any (m : Md.Mo) (vv vc vg : Value) (la : Option Addr) (ln lc : Nat) (w : World) (h : MoAt w m vv vc vg) : Calls Tryz.prog 6 #[moVal m vv vc vg, .slice la ln lc] w (SmOut m ln w) := by
  obtain ⟨va, vp, rfl, hvm, _, _⟩ := id h.v
  obtain ⟨ca, cp, rfl, hcm, _⟩ := id h.c
  obtain ⟨ga, gp, rfl, hgm⟩ := h.g.form
  obtain ⟨W, hW⟩ : ∃ W, w.alloc (.cells #[.slice va m.vars.length vp, .slice ca m.cons.length cp, .bool m.has, .slice ga m.goal.length gp] 26) = W := ⟨_, rfl⟩
  have hb0 : Below w.heap.size w W := by rw [← hW]; exact (Below.refl _ _).alloc (Nat.le_refl _) _
  have g0 : W.heap[w.heap.size]? = some (.cells #[.slice va m.vars.length vp, .slice ca m.cons.length cp, .bool m.has, .slice ga m.goal.length gp] 26 (0, 0)) := by rw [← hW]; exact heap_alloc_new w _
  have c0 : W.cell? ⟨w.heap.size, 0, none⟩ = some (.slice va m.vars.length vp) := cell_of g0 0
  have c1 : W.cell? ⟨w.heap.size, 1, none⟩ = some (.slice ca m.cons.length cp) := cell_of g0 1
  have c2 : W.cell? ⟨w.heap.size, 2, none⟩ = some (.bool m.has) := cell_of g0 2
  have c3 : W.cell? ⟨w.heap.size, 3, none⟩ = some (.slice ga m.goal.length gp) := cell_of g0 3
  have HB : Hid (Below w.heap.size w W) := hb0
  have HL : Hid (Calls Tryz.prog 25 #[.agg #[.slice va m.vars.length vp, .slice ca m.cons.length cp, .bool m.has, .slice ga m.goal.length gp]] W fun e w' => (∃ b, e = .returned (.bool b)) ∧ Below W.heap.size W w') := light_any m _ _ _ W (h.below hb0)
  clear h hb0 g0
  unfold moVal
  by_cases h1 : m.vars.length ≤ 300
  · have i1 : (m.vars.length : Int) ≤ 300 := by omega
    by_cases h2 : m.cons.length ≤ 300
    · have i2 : (m.cons.length : Int) ≤ 300 := by omega
      by_cases h3 : m.goal.length ≤ 300
      · have i3 : (m.goal.length : Int) ≤ 300 := by omega
        go_enter Tryz.func6, Tryz.ntmps6
        go_wp2_with fail
        refine calls_at HL.out (by with_reducible rfl) (by with_reducible rfl) ?_
        rintro e w1 ⟨⟨b, rfl⟩, hb1⟩
        have HB1 : Hid (Below w.heap.size w w1) := HB.out.trans (hb1.mono HB.out.size)
        clear hb1
        cases b with
        | false =>
          go_wp2_with fail
          go_ret
          exact ⟨⟨false, rfl, fun h => by cases h⟩, HB1.out⟩
        | true =>
          go_wp2_with fail
          go_ret
          exact ⟨⟨_, rfl, fun h => ⟨h1, h2, h3, by have := of_decide_eq_true h; omega⟩⟩, HB1.out⟩
      · have i3 : 300 < (m.goal.length : Int) := by omega
        go_enter Tryz.func6, Tryz.ntmps6
        go_wp2_with fail
        go_ret
        exact ⟨⟨false, rfl, fun h => by cases h⟩, HB.out⟩
    · have i2 : 300 < (m.cons.length : Int) := by omega
      go_enter Tryz.func6, Tryz.ntmps6
      go_wp2_with fail
      go_ret
      exact ⟨⟨false, rfl, fun h => by cases h⟩, HB.out⟩
  · have i1 : 300 < (m.vars.length : Int) := by omega
    go_enter Tryz.func6, Tryz.ntmps6
    go_wp2_with fail
    go_ret
    exact ⟨⟨false, rfl, fun h => by cases h⟩, HB.out⟩
end Go.Proofs.YtkipagelbcdhkaaGreatDoor

namespace Go.Proofs.YtkipagelbcdhkaaGreatDoor
open Go.RowKit

theorem KRows.young {S T : Nat → Prop} {w w1 : World} {v : Value} {l : List (List Int)} {us : List Value} (h : KRows S w v l us) (ho : Off S w w1) (hT : ∀ b, T b → S b ∨ w.heap.size ≤ b) : KRows T w1 v l us := by
  refine ⟨h.len, ?_, fun j hj h2 => (h.each j hj h2).young ho hT⟩
  obtain ⟨a, cap, hv, hm, hc⟩ := h.form
  refine ⟨a, cap, hv, hm, fun h0 => ?_⟩
  obtain ⟨b, off, ha, hb, hS, hj⟩ := hc h0
  exact ⟨b, off, ha, Nat.lt_of_lt_of_le hb ho.size, fun ht => (hT b ht).elim hS (fun h => by omega), fun j h => (World.cell?_of_block (a := ⟨b, off + j, none⟩) (ho.block b hb hS)).trans (hj j h)⟩
theorem KCn.young {S T : Nat → Prop} {w w1 : World} {c : Md.Cn} {vt vx vb vr : Value} (h : KCn S w c vt vx vb vr) (ho : Off S w w1) (hT : ∀ b, T b → S b ∨ w.heap.size ≤ b) : KCn T w1 c vt vx vb vr := by
  obtain ⟨us, hr⟩ := h.r
  exact ⟨h.t.young ho hT, h.x.young ho hT, h.xcap, h.b.young ho hT, us, hr.young ho hT⟩
/-- The constraints so far, in a row of the call's own. -/
def Segs (S : Nat → Prop) (w : World) (cs : List Md.Cn) (k : Nat) (xs : List Value) : Prop :=
  xs.length = k * 10 ∧ ∀ j (h : j < cs.length), j < k → ∃ vt vx vb vr, (∀ i u, (cnCells cs[j] vt vx vb vr)[i]? = some u → xs[j * 10 + i]? = some u) ∧ KCn S w cs[j] vt vx vb vr
theorem Segs.young {S T : Nat → Prop} {w w1 : World} {cs : List Md.Cn} {k : Nat} {xs : List Value} (h : Segs S w cs k xs) (ho : Off S w w1) (hT : ∀ b, T b → S b ∨ w.heap.size ≤ b) : Segs T w1 cs k xs :=
  ⟨h.1, fun j hj hk => by
    obtain ⟨vt, vx, vb, vr, h1, h2⟩ := h.2 j hj hk
    exact ⟨vt, vx, vb, vr, h1, h2.young ho hT⟩⟩
theorem Segs.more {S : Nat → Prop} {w : World} {cs : List Md.Cn} {k : Nat} {xs : List Value} {vt vx vb vr : Value} (h : Segs S w cs k xs) (hk : k < cs.length) (hn : KCn S w cs[k] vt vx vb vr) : Segs S w cs (k + 1) (xs ++ cnCells cs[k] vt vx vb vr) := by
  refine ⟨by rw [List.length_append, h.1]; simp [cnCells]; omega, fun j hj hlt => ?_⟩
  by_cases e : j = k
  · subst e
    refine ⟨vt, vx, vb, vr, fun i u hi => ?_, hn⟩
    rw [List.getElem?_append_right (by rw [h.1]; omega), h.1, show j * 10 + i - j * 10 = i by omega]
    exact hi
  · obtain ⟨a1, a2, a3, a4, h1, h2⟩ := h.2 j hj (by omega)
    refine ⟨a1, a2, a3, a4, fun i u hi => ?_, h2⟩
    have := h1 i u hi
    rw [List.getElem?_append_left (List.getElem?_eq_some_iff.1 this).1]
    exact this
theorem Segs.cons {S : Nat → Prop} {w : World} {cs : List Md.Cn} {xs : List Value} {B : Nat} {v : Value} (h : Segs S w cs cs.length xs) (ho : w.ownsRow B 86 10 v cs.length xs) (hm : cs.length ≤ maxLen) (hS : ∀ g, B ≤ g → ¬ S g) : Kept S w (fun w' => ConsAt w' v cs) := fun w' hof => by
  have ho' := own_off ho (fun g hg => hS g (ho.lt g hg).1) hof
  rcases own_cells ho' with ⟨rfl, hn⟩ | ⟨g, cap, rfl, _, hg, _, hc⟩
  · exact ⟨none, 0, by rw [hn], hm, fun h0 => by omega⟩
  · refine ⟨_, cap, rfl, hm, fun _ => ⟨g, 0, rfl, hg, fun j hj => ?_⟩⟩
    obtain ⟨vt, vx, vb, vr, h1, h2⟩ := h.2 j hj hj
    have key : ∀ i u, (cnCells cs[j] vt vx vb vr)[i]? = some u → w'.cell? ⟨g, 0 + j * 10 + i, none⟩ = some u := fun i u hi => by
      rw [Nat.zero_add]
      exact hc _ _ (h1 i u hi)
    exact ⟨vt, vx, vb, vr, (h2.next hof).at, key 0 _ rfl, key 1 _ rfl, key 2 _ rfl, key 3 _ rfl, key 4 _ rfl, key 5 _ rfl, key 6 _ rfl, key 7 _ rfl, key 8 _ rfl, key 9 _ rfl⟩
theorem set4 {w : World} {N : Nat} {a0 a1 a2 a3 : Value} {t : TypeId} (h : w.heap[N]? = some (.cells #[a0, a1, a2, a3] t (0, 0))) (b0 b1 b2 b3 : Value) : ((((w.setCell ⟨N, 0, none⟩ b0).setCell ⟨N, 1, none⟩ b1).setCell ⟨N, 2, none⟩ b2).setCell ⟨N, 3, none⟩ b3).heap[N]? = some (.cells #[b0, b1, b2, b3] t (0, 0)) := by
  have hE := heap_setCell_same _ N 3 _ t b3 (heap_setCell_same _ N 2 _ t b2 (heap_setCell_same _ N 1 _ t b1 (heap_setCell_same w N 0 _ t b0 h)))
  simpa only [List.setIfInBounds_toArray, List.set_cons_zero, List.set_cons_succ] using hE
theorem off_set4 {S : Nat → Prop} {w : World} {N : Nat} (hS : S N) (b0 b1 b2 b3 : Value) : Off S w ((((w.setCell ⟨N, 0, none⟩ b0).setCell ⟨N, 1, none⟩ b1).setCell ⟨N, 2, none⟩ b2).setCell ⟨N, 3, none⟩ b3) := (((Off.set _ hS).trans (Off.set _ hS)).trans (Off.set _ hS)).trans (Off.set _ hS)
theorem cp_set4 {N : Nat} {w1 : World} {cur : Array Value} {t : TypeId} (hN : w1.heap[N]? = some (.cells cur t (0, 0))) (j : Nat) (u : Value) :
    (w1.setCell ⟨N, j, none⟩ u).heap[N]? = some (.cells (cur.setIfInBounds j u) t (0, 0)) ∧ Off (fun b => b = N) w1 (w1.setCell ⟨N, j, none⟩ u) :=
  ⟨heap_setCell_same _ _ _ _ _ _ hN, Off.set _ rfl⟩

theorem info71 : (Tryz.prog.info? 86).map (fun i => (i.zero, i.size, i.bytes)) = some (some (.agg #[.int .i64 0, .int .i64 0, .slice none 0 0, .int .i64 0, .int .i64 0, .int .i64 0, .int .i64 0, .slice none 0 0, .slice none 0 0, .slice none 0 0]), 10, 144) := by kernel_rfl
theorem info39 : (Tryz.prog.info? 47).map (fun i => (i.zero, i.size, i.bytes)) = some (some (.agg #[.string ⟨#[]⟩, .int .i64 0, .int .i64 0]), 3, 32) := by kernel_rfl
theorem info113 : (Tryz.prog.info? 123).map (fun i => (i.zero, i.size, i.bytes)) = some (some (.agg #[.int .i64 0, .int .i64 0]), 2, 16) := by kernel_rfl
theorem un22 : Tryz.prog.underlying 22 = some (.slice 47) := by kernel_rfl
theorem un23 : Tryz.prog.underlying 23 = some (.slice 86) := by kernel_rfl
theorem un24 : Tryz.prog.underlying 24 = some (.slice 123) := by kernel_rfl
/-- Rows of two types lie in two blocks. -/
theorem own_ne {w : World} {B B' : Nat} {e e' : TypeId} {s s' : Nat} {u v : Value} {n m : Nat} {xs ys : List Value} (he : e ≠ e') (h : w.ownsRow B e s u n xs) (k : w.ownsRow B' e' s' v m ys) : ∀ g, u.ownBlock = some g → v.ownBlock ≠ some g := by
  intro g hg hv
  rcases h.2 with ⟨h1, _⟩ | ⟨g1, cap, cur, h1, _, hc1, _⟩
  · rw [h1] at hg; simp [Value.ownBlock] at hg
  · rcases k.2 with ⟨k1, _⟩ | ⟨g2, cap2, cur2, k1, _, hc2, _⟩
    · rw [k1] at hv; simp [Value.ownBlock] at hv
    · rw [h1] at hg
      rw [k1] at hv
      simp [Value.ownBlock] at hg hv
      subst hg hv
      rw [hc1] at hc2
      injection hc2 with hc2
      injection hc2 with _ h3
      exact he h3
/-- A problem that can be copied. -/
structure MoFit (m : Md.Mo) : Prop where
  v : m.vars.length ≤ 300
  c : m.cons.length ≤ 300
  g : m.goal.length ≤ 300
  l : ∀ c ∈ m.cons, c.terms.length * 16 ≤ 140737488355328 ∧ c.xs.length * 8 ≤ 140737488355328 ∧ c.table.length * 8 ≤ 140737488355328
/-- What copied leaves. -/
def CdOut (m : Md.Mo) (w : World) (e : Ending) (w' : World) : Prop := ∃ vv vc vg, e = .returned (moVal m vv vc vg) ∧ MoAt w' m vv vc vg ∧ Below w.heap.size w w'
end Go.Proofs.YtkipagelbcdhkaaGreatDoor
