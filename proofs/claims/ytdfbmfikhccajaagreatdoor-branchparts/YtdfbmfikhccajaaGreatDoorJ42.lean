/-
  Put together: BrSmall, DmCopyL, DmCopied, DtM.
-/
import Derived.Test.YtdfbmfikhccajaaGreatDoorJ40
import Derived.Test.YtdfbmfikhccajaaGreatDoorJ26
import Derived.Test.YtdfbmfikhccajaaGreatDoorJ41
namespace Go.Proofs.YtdfbmfikhccajaaGreatDoor
open Go.RowKit

set_option maxRecDepth 10000 in
set_option maxHeartbeats 1000000 in
theorem small_any (m : Md.Mo) (vv vc vg : Value) (w : World) (h : MoAt w m vv vc vg) : Calls Tryz.prog 6 #[moVal m vv vc vg] w fun e w' => (∃ b, e = .returned (.bool b)) ∧ Below w.heap.size w w' := by
  obtain ⟨va, vp, rfl, hvm, _, hvo⟩ := id h.v
  obtain ⟨ca, cp, rfl, hcm, hco⟩ := id h.c
  have HCC : Hid (∀ w', Below w.heap.size w w' → ∀ j (hj : j < m.cons.length), ∃ b off ta tl tc xa xl xc ba bl bc, ca = some ⟨b, off, none⟩ ∧ w'.cell? ⟨b, off + j * 10 + 2, none⟩ = some (.slice ta tl tc) ∧ w'.cell? ⟨b, off + j * 10 + 7, none⟩ = some (.slice xa xl xc) ∧ w'.cell? ⟨b, off + j * 10 + 8, none⟩ = some (.slice ba bl bc)) := fun w' hb j hj => by
    obtain ⟨b, off, e1, e2, e3⟩ := hco (by omega)
    obtain ⟨vt, vx, vb, vr, f1, f2⟩ := e3 j hj
    obtain ⟨ta, tc, rfl, _⟩ := f1.t.form
    obtain ⟨xa, xc, rfl, _⟩ := f1.x.form
    obtain ⟨ba, bc, rfl, _⟩ := f1.b.form
    obtain ⟨_, _, q2, _, _, _, _, q7, q8, _⟩ := f2
    exact ⟨b, off, _, _, _, _, _, _, _, _, _, e1, (hb.cell (p := ⟨b, off + j * 10 + 2, none⟩) e2).trans q2, (hb.cell (p := ⟨b, off + j * 10 + 7, none⟩) e2).trans q7, (hb.cell (p := ⟨b, off + j * 10 + 8, none⟩) e2).trans q8⟩
  obtain ⟨ga, gp, rfl, hgm⟩ := h.g.form
  obtain ⟨W, hW⟩ : ∃ W, w.alloc (.cells #[.slice va m.vars.length vp, .slice ca m.cons.length cp, .bool m.has, .slice ga m.goal.length gp] 26) = W := ⟨_, rfl⟩
  have hb0 : Below w.heap.size w W := by rw [← hW]; exact (Below.refl _ _).alloc (Nat.le_refl _) _
  have g0 : W.heap[w.heap.size]? = some (.cells #[.slice va m.vars.length vp, .slice ca m.cons.length cp, .bool m.has, .slice ga m.goal.length gp] 26 (0, 0)) := by rw [← hW]; exact heap_alloc_new w _
  have hlt := (Array.getElem?_eq_some_iff.1 g0).1
  have HB : Hid (Below w.heap.size w W) := hb0
  have HM : Hid (∀ w', Below W.heap.size W w' → w'.cell? ⟨w.heap.size, 0, none⟩ = some (.slice va m.vars.length vp) ∧ w'.cell? ⟨w.heap.size, 1, none⟩ = some (.slice ca m.cons.length cp)) := fun w' hb => ⟨(hb.cell (p := ⟨w.heap.size, 0, none⟩) hlt).trans (cell_of g0 0), (hb.cell (p := ⟨w.heap.size, 1, none⟩) hlt).trans (cell_of g0 1)⟩
  have c0 : W.cell? ⟨w.heap.size, 0, none⟩ = some (.slice va m.vars.length vp) := cell_of g0 0
  have c1 : W.cell? ⟨w.heap.size, 1, none⟩ = some (.slice ca m.cons.length cp) := cell_of g0 1
  have c3 : W.cell? ⟨w.heap.size, 3, none⟩ = some (.slice ga m.goal.length gp) := cell_of g0 3
  unfold maxLen at hvm hcm
  clear hb0 g0 hlt h hvo hco
  unfold moVal
  go_enter Tryz.func6, Tryz.ntmps6
  go_wp2_with fail
  go_loopw [3, 4] (fun nv iv wr => ∃ (k : Nat) (n : Int), nv = .int .i64 n ∧ iv = .int .i64 (k : Int) ∧ k ≤ m.cons.length ∧ Hid (Below W.heap.size W wr)) (fun _ iv _ => m.cons.length - (intOf iv).toNat)
  case atStart => exact ⟨0, _, rfl, rfl, Nat.zero_le _, Below.refl _ _⟩
  case round =>
    obtain ⟨k, n, rfl, rfl, hk, HBr⟩ := hrel
    obtain ⟨d0, d1⟩ := HM.out wr HBr.out
    by_cases hgo : k < m.cons.length ∧ n ≤ 65536
    · obtain ⟨hkn, hn⟩ := hgo
      have hkI : (k : Int) < (m.cons.length : Int) := by omega
      obtain ⟨b, off, ta, tl, tc, xa, xl, xc, ba, bl, bc, rfl, x2, x7, x8⟩ := HCC.out wr (HB.out.trans (HBr.out.mono HB.out.size)) k hkn
      go_wp2_with fail
      go_region
      have HBd : Hid (Below W.heap.size W wr.drew) := HBr.out.drew
      go_wp2_with fail
      go_roundw
      case rel => exact ⟨k + 1, _, rfl, by go_num, hkn, HBd⟩
      case measure => simp [intOf]; omega
    · have hout : ((k : Int) < (m.cons.length : Int) ∧ 65536 < n) ∨ (m.cons.length : Int) ≤ (k : Int) := by omega
      rcases hout with ⟨ho1, ho2⟩ | ho1
      all_goals
        go_wp2_with fail
        go_ret
        exact ⟨⟨_, rfl⟩, HB.out.trans (HBr.out.mono HB.out.size)⟩
end Go.Proofs.YtdfbmfikhccajaaGreatDoor

namespace Go.Proofs.YtdfbmfikhccajaaGreatDoor
open Go.RowKit

theorem KRows.young {S T : Nat → Prop} {w w1 : World} {v : Value} {l : List (List Int)} {us : List Value} (h : KRows S w v l us) (ho : Off S w w1) (hT : ∀ b, T b → S b ∨ w.heap.size ≤ b) : KRows T w1 v l us := by
  refine ⟨h.len, ?_, fun j hj h2 => (h.each j hj h2).young ho hT⟩
  obtain ⟨a, cap, hv, hm, hc⟩ := h.form
  refine ⟨a, cap, hv, hm, fun h0 => ?_⟩
  obtain ⟨b, off, ha, hb, hS, hj⟩ := hc h0
  exact ⟨b, off, ha, Nat.lt_of_lt_of_le hb ho.size, fun ht => (hT b ht).elim hS (fun h => by omega), fun j h => (World.cell?_of_block (a := ⟨b, off + j, none⟩) (ho.block b hb hS)).trans (hj j h)⟩
theorem KCn.young {S T : Nat → Prop} {w w1 : World} {c : Md.Cn} {vt vx vb vr : Value} (h : KCn S w c vt vx vb vr) (ho : Off S w w1) (hT : ∀ b, T b → S b ∨ w.heap.size ≤ b) : KCn T w1 c vt vx vb vr := by
  obtain ⟨us, hr⟩ := h.r
  exact ⟨h.t.young ho hT, h.x.young ho hT, h.xcap, h.b.young ho hT, us, hr.young ho hT⟩
/-- The constraints so far, in a row of the call's own. -/
def Segs (S : Nat → Prop) (w : World) (cs : List Md.Cn) (k : Nat) (xs : List Value) : Prop :=
  xs.length = k * 10 ∧ ∀ j (h : j < cs.length), j < k → ∃ vt vx vb vr, (∀ i u, (cnCells cs[j] vt vx vb vr)[i]? = some u → xs[j * 10 + i]? = some u) ∧ KCn S w cs[j] vt vx vb vr
theorem Segs.young {S T : Nat → Prop} {w w1 : World} {cs : List Md.Cn} {k : Nat} {xs : List Value} (h : Segs S w cs k xs) (ho : Off S w w1) (hT : ∀ b, T b → S b ∨ w.heap.size ≤ b) : Segs T w1 cs k xs :=
  ⟨h.1, fun j hj hk => by
    obtain ⟨vt, vx, vb, vr, h1, h2⟩ := h.2 j hj hk
    exact ⟨vt, vx, vb, vr, h1, h2.young ho hT⟩⟩
theorem Segs.more {S : Nat → Prop} {w : World} {cs : List Md.Cn} {k : Nat} {xs : List Value} {vt vx vb vr : Value} (h : Segs S w cs k xs) (hk : k < cs.length) (hn : KCn S w cs[k] vt vx vb vr) : Segs S w cs (k + 1) (xs ++ cnCells cs[k] vt vx vb vr) := by
  refine ⟨by rw [List.length_append, h.1]; simp [cnCells]; omega, fun j hj hlt => ?_⟩
  by_cases e : j = k
  · subst e
    refine ⟨vt, vx, vb, vr, fun i u hi => ?_, hn⟩
    rw [List.getElem?_append_right (by rw [h.1]; omega), h.1, show j * 10 + i - j * 10 = i by omega]
    exact hi
  · obtain ⟨a1, a2, a3, a4, h1, h2⟩ := h.2 j hj (by omega)
    refine ⟨a1, a2, a3, a4, fun i u hi => ?_, h2⟩
    have := h1 i u hi
    rw [List.getElem?_append_left (List.getElem?_eq_some_iff.1 this).1]
    exact this
theorem Segs.cons {S : Nat → Prop} {w : World} {cs : List Md.Cn} {xs : List Value} {B : Nat} {v : Value} (h : Segs S w cs cs.length xs) (ho : w.ownsRow B 61 10 v cs.length xs) (hm : cs.length ≤ maxLen) (hS : ∀ g, B ≤ g → ¬ S g) : Kept S w (fun w' => ConsAt w' v cs) := fun w' hof => by
  have ho' := own_off ho (fun g hg => hS g (ho.lt g hg).1) hof
  rcases own_cells ho' with ⟨rfl, hn⟩ | ⟨g, cap, rfl, _, hg, _, hc⟩
  · exact ⟨none, 0, by rw [hn], hm, fun h0 => by omega⟩
  · refine ⟨_, cap, rfl, hm, fun _ => ⟨g, 0, rfl, hg, fun j hj => ?_⟩⟩
    obtain ⟨vt, vx, vb, vr, h1, h2⟩ := h.2 j hj hj
    have key : ∀ i u, (cnCells cs[j] vt vx vb vr)[i]? = some u → w'.cell? ⟨g, 0 + j * 10 + i, none⟩ = some u := fun i u hi => by
      rw [Nat.zero_add]
      exact hc _ _ (h1 i u hi)
    exact ⟨vt, vx, vb, vr, (h2.next hof).at, key 0 _ rfl, key 1 _ rfl, key 2 _ rfl, key 3 _ rfl, key 4 _ rfl, key 5 _ rfl, key 6 _ rfl, key 7 _ rfl, key 8 _ rfl, key 9 _ rfl⟩
theorem set4 {w : World} {N : Nat} {a0 a1 a2 a3 : Value} {t : TypeId} (h : w.heap[N]? = some (.cells #[a0, a1, a2, a3] t (0, 0))) (b0 b1 b2 b3 : Value) : ((((w.setCell ⟨N, 0, none⟩ b0).setCell ⟨N, 1, none⟩ b1).setCell ⟨N, 2, none⟩ b2).setCell ⟨N, 3, none⟩ b3).heap[N]? = some (.cells #[b0, b1, b2, b3] t (0, 0)) := by
  have hE := heap_setCell_same _ N 3 _ t b3 (heap_setCell_same _ N 2 _ t b2 (heap_setCell_same _ N 1 _ t b1 (heap_setCell_same w N 0 _ t b0 h)))
  simpa only [List.setIfInBounds_toArray, List.set_cons_zero, List.set_cons_succ] using hE
theorem off_set4 {S : Nat → Prop} {w : World} {N : Nat} (hS : S N) (b0 b1 b2 b3 : Value) : Off S w ((((w.setCell ⟨N, 0, none⟩ b0).setCell ⟨N, 1, none⟩ b1).setCell ⟨N, 2, none⟩ b2).setCell ⟨N, 3, none⟩ b3) := (((Off.set _ hS).trans (Off.set _ hS)).trans (Off.set _ hS)).trans (Off.set _ hS)
theorem cp_set4 {N : Nat} {w1 : World} {cur : Array Value} {t : TypeId} (hN : w1.heap[N]? = some (.cells cur t (0, 0))) (j : Nat) (u : Value) :
    (w1.setCell ⟨N, j, none⟩ u).heap[N]? = some (.cells (cur.setIfInBounds j u) t (0, 0)) ∧ Off (fun b => b = N) w1 (w1.setCell ⟨N, j, none⟩ u) :=
  ⟨heap_setCell_same _ _ _ _ _ _ hN, Off.set _ rfl⟩

theorem info71 : (Tryz.prog.info? 61).map (fun i => (i.zero, i.size, i.bytes)) = some (some (.agg #[.int .i64 0, .int .i64 0, .slice none 0 0, .int .i64 0, .int .i64 0, .int .i64 0, .int .i64 0, .slice none 0 0, .slice none 0 0, .slice none 0 0]), 10, 144) := by kernel_rfl
theorem info39 : (Tryz.prog.info? 51).map (fun i => (i.zero, i.size, i.bytes)) = some (some (.agg #[.string ⟨#[]⟩, .int .i64 0, .int .i64 0]), 3, 32) := by kernel_rfl
theorem info113 : (Tryz.prog.info? 120).map (fun i => (i.zero, i.size, i.bytes)) = some (some (.agg #[.int .i64 0, .int .i64 0]), 2, 16) := by kernel_rfl
theorem un22 : Tryz.prog.underlying 22 = some (.slice 51) := by kernel_rfl
theorem un23 : Tryz.prog.underlying 23 = some (.slice 61) := by kernel_rfl
theorem un24 : Tryz.prog.underlying 24 = some (.slice 120) := by kernel_rfl
/-- Rows of two types lie in two blocks. -/
theorem own_ne {w : World} {B B' : Nat} {e e' : TypeId} {s s' : Nat} {u v : Value} {n m : Nat} {xs ys : List Value} (he : e ≠ e') (h : w.ownsRow B e s u n xs) (k : w.ownsRow B' e' s' v m ys) : ∀ g, u.ownBlock = some g → v.ownBlock ≠ some g := by
  intro g hg hv
  rcases h.2 with ⟨h1, _⟩ | ⟨g1, cap, cur, h1, _, hc1, _⟩
  · rw [h1] at hg; simp [Value.ownBlock] at hg
  · rcases k.2 with ⟨k1, _⟩ | ⟨g2, cap2, cur2, k1, _, hc2, _⟩
    · rw [k1] at hv; simp [Value.ownBlock] at hv
    · rw [h1] at hg
      rw [k1] at hv
      simp [Value.ownBlock] at hg hv
      subst hg hv
      rw [hc1] at hc2
      injection hc2 with hc2
      injection hc2 with _ h3
      exact he h3
/-- A problem that can be copied. -/
structure MoFit (m : Md.Mo) : Prop where
  v : m.vars.length ≤ 300
  c : m.cons.length ≤ 300
  g : m.goal.length ≤ 300
  l : ∀ c ∈ m.cons, c.terms.length * 16 ≤ 140737488355328 ∧ c.xs.length * 8 ≤ 140737488355328 ∧ c.table.length * 8 ≤ 140737488355328
/-- What copied leaves. -/
def CdOut (m : Md.Mo) (w : World) (e : Ending) (w' : World) : Prop := ∃ vv vc vg, e = .returned (moVal m vv vc vg) ∧ MoAt w' m vv vc vg ∧ Below w.heap.size w w'
end Go.Proofs.YtdfbmfikhccajaaGreatDoor

namespace Go.Proofs.YtdfbmfikhccajaaGreatDoor
open Go.RowKit

/-- copied under way: the problem's box, the answer's, the copy's. -/
structure CdI (w : World) (Mc Oc : Array Value) (w' : World) : Prop where
  below : Below w.heap.size w w'
  size : w.heap.size + 3 ≤ w'.heap.size
  b0 : w'.heap[w.heap.size]? = some (.cells Mc 26 (0, 0))
  b1 : w'.heap[w.heap.size + 1]? = some (.cells #[.slice none 0 0, .slice none 0 0, .bool false, .slice none 0 0] 26 (0, 0))
  b2 : w'.heap[w.heap.size + 1 + 1]? = some (.cells Oc 26 (0, 0))
theorem CdI.next {w w1 w2 : World} {Mc Oc : Array Value} (h : CdI w Mc Oc w1) (hb : Below (w.heap.size + 3) w1 w2) : CdI w Mc Oc w2 :=
  ⟨h.below.trans (hb.mono (by omega)), Nat.le_trans h.size hb.size, (hb.block _ (by omega)).trans h.b0, (hb.block _ (by omega)).trans h.b1, (hb.block _ (by omega)).trans h.b2⟩
theorem CdI.set {w w1 : World} {Mc Oc : Array Value} (h : CdI w Mc Oc w1) (j : Nat) (u : Value) : CdI w Mc (Oc.setIfInBounds j u) (w1.setCell ⟨w.heap.size + 1 + 1, j, none⟩ u) :=
  ⟨h.below.setCell (by simp; omega) _, by simpa using h.size, (heap_setCell_other _ _ _ _ (by simp; omega)).trans h.b0, (heap_setCell_other _ _ _ _ (by simp)).trans h.b1, heap_setCell_same _ _ _ _ _ _ h.b2⟩
theorem row_set {w : World} {N j B : Nat} {e : TypeId} {size : Nat} {v u : Value} {n : Nat} {xs : List Value} (h : w.ownsRow B e size v n xs) (hN : N < B) : (w.setCell ⟨N, j, none⟩ u).ownsRow B e size v n xs :=
  row_kept h fun g hg => heap_setCell_other _ _ _ _ (by have := (row_lt h hg).1; simp; omega)

/-- A first copy is laid into the copy's box. -/
theorem cd_put {w W w1 : World} {Mc Oc : Array Value} {e : TypeId} {size n : Nat} {v : Value} {xs : List Value} (hI : CdI w Mc Oc W) (ho : w1.ownsRow (w.heap.size + 3) e size v n xs) (hg : W.grownBy w1 (Value.slice none 0 0).ownBlock) (j : Nat) :
    CdI w Mc Oc w1 ∧ CdI w Mc (Oc.setIfInBounds j v) (w1.setCell ⟨w.heap.size + 1 + 1, j, none⟩ v) ∧ (w1.setCell ⟨w.heap.size + 1 + 1, j, none⟩ v).ownsRow (w.heap.size + 3) e size v n xs := by
  have hb : Below (w.heap.size + 3) W w1 := (Below.refl _ _).grown hg hI.size (fun g hg => by simp [Value.ownBlock] at hg)
  exact ⟨hI.next hb, (hI.next hb).set j v, row_set ho (by omega)⟩
theorem cd_keep {w W w1 : World} {e : TypeId} {size n : Nat} {v u : Value} {xs : List Value} (h : W.ownsRow (w.heap.size + 3) e size v n xs) (hg : W.grownBy w1 (Value.slice none 0 0).ownBlock) (j : Nat) : (w1.setCell ⟨w.heap.size + 1 + 1, j, none⟩ u).ownsRow (w.heap.size + 3) e size v n xs :=
  row_set (row_kept h (fun g hg2 => hg.block g (row_lt h hg2).2 (by simp [Value.ownBlock]))) (by omega)

/-- The blocks that are still written. -/
def CdS (w : World) (cv : Value) (b : Nat) : Prop := b = w.heap.size + 1 ∨ b = w.heap.size + 1 + 1 ∨ cv.ownBlock = some b
/-- One constraint's box. -/
structure BxI (wr : World) (Bc : Array Value) (w' : World) : Prop where
  below : Below wr.heap.size wr w'
  size : wr.heap.size + 1 ≤ w'.heap.size
  blk : w'.heap[wr.heap.size]? = some (.cells Bc 61 (0, 0))
theorem bx_put {wr X w1 : World} {Bc : Array Value} {e : TypeId} {size n : Nat} {v : Value} {xs : List Value} (hI : BxI wr Bc X) (ho : w1.ownsRow (wr.heap.size + 1) e size v n xs) (hg : X.grownBy w1 (Value.slice none 0 0).ownBlock) (j : Nat) :
    BxI wr Bc w1 ∧ BxI wr (Bc.setIfInBounds j v) (w1.setCell ⟨wr.heap.size, j, none⟩ v) ∧ (w1.setCell ⟨wr.heap.size, j, none⟩ v).ownsRow (wr.heap.size + 1) e size v n xs := by
  have hb : Below (wr.heap.size + 1) X w1 := (Below.refl _ _).grown hg hI.size (fun g hg => by simp [Value.ownBlock] at hg)
  have h1 : BxI wr Bc w1 := ⟨hI.below.trans (hb.mono (by omega)), Nat.le_trans hI.size hb.size, (hb.block _ (by omega)).trans hI.blk⟩
  exact ⟨h1, ⟨h1.below.setCell (Nat.le_refl _) _, by simpa using h1.size, heap_setCell_same _ _ _ _ _ _ h1.blk⟩, row_set ho (by omega)⟩
theorem bx_keep {wr X w1 : World} {e : TypeId} {size n : Nat} {v u : Value} {xs : List Value} (h : X.ownsRow (wr.heap.size + 1) e size v n xs) (hg : X.grownBy w1 (Value.slice none 0 0).ownBlock) (j : Nat) : (w1.setCell ⟨wr.heap.size, j, none⟩ u).ownsRow (wr.heap.size + 1) e size v n xs :=
  row_set (row_kept h (fun g hg2 => hg.block g (row_lt h hg2).2 (by simp [Value.ownBlock]))) (by omega)
/-- One constraint more. -/
theorem cd_step {w wr Y w8 : World} {Mc : Array Value} {V1 cv cv' hs G1 T X Tb R : Value} {cons : List Md.Cn} {k nv ng : Nat} {xs us : List Value} {vx gx : List Value} (hk : k < cons.length)
    (hC : CdI w Mc #[V1, cv, hs, G1] wr) (hB : Below wr.heap.size wr Y) (hcv : wr.ownsRow (w.heap.size + 3) 86 10 cv k xs) (hSg : Segs (CdS w cv) wr cons k xs) (hV : wr.ownsRow (w.heap.size + 3) 47 3 V1 nv vx) (hG : wr.ownsRow (w.heap.size + 3) 123 2 G1 ng gx)
    (hK : KCn (CdS w cv) Y cons[k] T X Tb R) (ho8 : w8.ownsRow (w.heap.size + 3) 86 10 cv' (k + 1) (xs ++ cnCells cons[k] T X Tb R)) (hg8 : (Y.alloc (.cells us.toArray 86)).grownBy w8 cv.ownBlock) (hn8 : cv'.ownBlock = cv.ownBlock ∨ cv'.ownBlock = some (Y.heap.size + 1)) :
    CdI w Mc #[V1, cv', hs, G1] (w8.setCell ⟨w.heap.size + 1 + 1, 1, none⟩ cv') ∧ CdI w Mc #[V1, cv, hs, G1] w8 ∧ (w8.setCell ⟨w.heap.size + 1 + 1, 1, none⟩ cv').ownsRow (w.heap.size + 3) 86 10 cv' (k + 1) (xs ++ cnCells cons[k] T X Tb R) ∧ Segs (CdS w cv') (w8.setCell ⟨w.heap.size + 1 + 1, 1, none⟩ cv') cons (k + 1) (xs ++ cnCells cons[k] T X Tb R) ∧ (w8.setCell ⟨w.heap.size + 1 + 1, 1, none⟩ cv').ownsRow (w.heap.size + 3) 47 3 V1 nv vx ∧ (w8.setCell ⟨w.heap.size + 1 + 1, 1, none⟩ cv').ownsRow (w.heap.size + 3) 123 2 G1 ng gx := by
  have hsz : w.heap.size + 3 ≤ Y.heap.size := Nat.le_trans hC.size hB.size
  have hYa : Below Y.heap.size Y (Y.alloc (.cells us.toArray 86)) := (Below.refl _ _).alloc (Nat.le_refl _) _
  have hwY : Below wr.heap.size wr (Y.alloc (.cells us.toArray 86)) := hB.trans (hYa.mono hB.size)
  have hcvY : (Y.alloc (.cells us.toArray 86)).ownsRow (w.heap.size + 3) 86 10 cv k xs := own_below hcv hwY
  have hb8 : Below (w.heap.size + 3) (Y.alloc (.cells us.toArray 86)) w8 := (Below.refl _ _).grown hg8 (Nat.le_trans hsz hYa.size) (fun g hg => (row_lt hcvY hg).1)
  have hC8 : CdI w Mc #[V1, cv, hs, G1] w8 := (hC.next (hwY.mono hC.size)).next hb8
  have keep : ∀ {e : TypeId} {size n : Nat} {v : Value} {ys : List Value}, e ≠ 86 → wr.ownsRow (w.heap.size + 3) e size v n ys → (w8.setCell ⟨w.heap.size + 1 + 1, 1, none⟩ cv').ownsRow (w.heap.size + 3) e size v n ys := by
    intro e size n v ys he h
    have h1 := own_below h hwY
    exact row_set (row_kept h1 (fun g hg => hg8.block g (row_lt h1 hg).2 (fun e2 => own_ne he h1 hcvY g hg e2.symm))) (by omega)
  have hC9 := hC8.set 1 cv'
  refine ⟨by simpa only [List.setIfInBounds_toArray, List.set_cons_zero, List.set_cons_succ] using hC9, hC8, row_set ho8 (by omega), ?_, keep (by decide) hV, keep (by decide) hG⟩
  have hS1 : Segs (CdS w cv) Y cons (k + 1) (xs ++ cnCells cons[k] T X Tb R) := (hSg.young (Off.of_below hB) (fun b h => .inl h)).more hk hK
  have hoff : Off (CdS w cv) Y (w8.setCell ⟨w.heap.size + 1 + 1, 1, none⟩ cv') := ((Off.of_below hYa).trans (Off.grown hg8 (fun g hg => .inr (.inr hg)))).trans (Off.set _ (.inr (.inl rfl)))
  refine hS1.young hoff (fun b h => ?_)
  rcases h with h | h | h
  · exact .inl (.inl h)
  · exact .inl (.inr (.inl h))
  · rcases hn8 with hn | hn
    · exact .inl (.inr (.inr (hn ▸ h)))
    · rw [hn] at h
      injection h with h
      exact .inr (by omega)

theorem own_capN {w : World} {B : Nat} {e : TypeId} {size : Nat} {v : Value} {n : Nat} {xs : List Value} (h : w.ownsRow B e size v n xs) : ∀ a m cp, v = .slice a m cp → m ≤ cp := by
  intro a m cp hv
  rcases h.2 with ⟨h1, h2⟩ | ⟨g, cap, cur, h1, _, _, hn, _⟩
  · rw [h1] at hv
    injection hv with _ e1 e2
    omega
  · rw [h1] at hv
    injection hv with _ e1 e2
    omega
theorem kcn_new {w wr Y : World} {Mc Oc : Array Value} {cv T X Tb vt vx vb R : Value} {k : Nat} {xs : List Value} {c : Md.Cn} (hC : CdI w Mc Oc wr) (hcv : wr.ownsRow (w.heap.size + 3) 86 10 cv k xs) (hw : CnAt w c vt vx vb R) (hB : Below wr.heap.size wr Y)
    (rT : Y.ownsRow (wr.heap.size + 1) 123 2 T c.terms.length (termCells c.terms)) (rX : Y.ownsRow (wr.heap.size + 1) 3 1 X c.xs.length (c.xs.map (.int .i64))) (rB : Y.ownsRow (wr.heap.size + 1) 3 1 Tb c.table.length (c.table.map (.int .i64))) (ht : c.terms.length ≤ maxLen) (hx : c.xs.length ≤ maxLen) (hb : c.table.length ≤ maxLen) : KCn (CdS w cv) Y c T X Tb R := by
  have hs := hC.size
  have hS1 : ∀ g, wr.heap.size + 1 ≤ g → ¬ CdS w cv g := fun g hg h => by
    rcases h with h | h | h
    · omega
    · omega
    · have := (row_lt hcv h).2
      omega
  have hS2 : ∀ g, CdS w cv g → w.heap.size ≤ g := fun g h => by
    rcases h with h | h | h
    · omega
    · omega
    · have := (row_lt hcv h).1
      omega
  exact ⟨keptown_terms rT hS1 ht, keptown_ints rX hS1 hx, own_capN rX, keptown_ints rB hS1 hb, KRows.old hw.r (hC.below.trans (hB.mono hC.below.size)) hS2⟩

end Go.Proofs.YtdfbmfikhccajaaGreatDoor

namespace Go.Proofs.YtdfbmfikhccajaaGreatDoor
open Go.RowKit

/-- Rising lists with the same members are the same. -/
theorem up_ext : ∀ {L M : List Int}, L.Pairwise (· < ·) → M.Pairwise (· < ·) → (∀ v, v ∈ L ↔ v ∈ M) → L = M
  | [], [], _, _, _ => rfl
  | [], m :: M, _, _, h => absurd ((h m).2 (by simp)) (by simp)
  | l :: L, [], _, _, h => absurd ((h l).1 (by simp)) (by simp)
  | l :: L, m :: M, hL, hM, h => by
    have hL1 := List.pairwise_cons.1 hL
    have hM1 := List.pairwise_cons.1 hM
    have e : l = m := by
      have a1 := (h l).1 (by simp)
      have a2 := (h m).2 (by simp)
      rcases List.mem_cons.1 a1 with a1 | a1
      · exact a1
      · rcases List.mem_cons.1 a2 with a2 | a2
        · exact a2.symm
        · have := hM1.1 _ a1
          have := hL1.1 _ a2
          omega
    subst e
    refine congrArg _ (up_ext hL1.2 hM1.2 fun v => ⟨fun hv => ?_, fun hv => ?_⟩)
    · rcases List.mem_cons.1 ((h v).1 (List.mem_cons_of_mem _ hv)) with e | e
      · have := hL1.1 _ hv; omega
      · exact e
    · rcases List.mem_cons.1 ((h v).2 (List.mem_cons_of_mem _ hv)) with e | e
      · have := hM1.1 _ hv; omega
      · exact e

/-- What the document's Cut leaves of a list. -/
def lft (k v : Int) (L : List Int) : List Int := L.filter fun u => !takesB k v u
theorem lft_mem {d : Dm} (h : d.Ok) (hf : d.Fine) (k v u : Int) : u ∈ lft k v d.all ↔ (d.cut k v).has u = true := by
  unfold lft
  rw [List.mem_filter, hf.all]
  constructor
  · rintro ⟨h1, h2⟩
    exact cut_has h k v u h1 (by simpa using h2)
  · intro h1
    obtain ⟨a, b⟩ := cut_fewer h k v u h1
    exact ⟨a, by simp [b]⟩
theorem eqB_of {d e : Dm} (h : d.eqB e = true) : d.a = e.a ∧ d.b = e.b := by
  unfold Dm.eqB at h
  simpa using h
theorem all_ne {d : Dm} (hf : d.Fine) : d.all ≠ [] := fun e => by
  have := (hf.all d.lo).2 hf.loIn
  rw [e] at this
  cases this
/-- A cut that leaves nothing. -/
theorem lft_nil {d : Dm} (h : d.Ok) (hf : d.Fine) (k v : Int) (h0 : (d.cut k v).eqB ⟨0, 0, 0⟩ = true) : lft k v d.all = [] := by
  rw [List.eq_nil_iff_forall_not_mem]
  intro u hu
  rw [lft_mem h hf] at hu
  obtain ⟨j, hj, _, hb⟩ := (Dm.has_is (h.cut k v) u).1 hu
  obtain ⟨e1, e2⟩ := eqB_of h0
  rw [e1, e2] at hb
  unfold bt wb at hb
  split at hb <;> simp at hb
theorem lft_cut {d : Dm} (h : d.Ok) (hf : d.Fine) (k v : Int) (h0 : (d.cut k v).eqB ⟨0, 0, 0⟩ = false) : lft k v d.all = (d.cut k v).all := by
  have hF := fine_of (h.cut k v) (any_words (h.cut k v) h0)
  refine up_ext (hf.up.filter _) hF.up fun u => ?_
  rw [hF.all]
  exact lft_mem h hf k v u
theorem all_eq {d e : Dm} (hf : d.f = e.f) (h : d.eqB e = true) : d.all = e.all := by
  obtain ⟨h1, h2⟩ := eqB_of h
  unfold Dm.all
  rw [hf, h1, h2]
theorem not_zero {d : Dm} (ha : d.Any) : d.eqB ⟨0, 0, 0⟩ = false := by
  cases h0 : d.eqB ⟨0, 0, 0⟩ with
  | false => rfl
  | true =>
    obtain ⟨k, hk, hb⟩ := ha
    obtain ⟨e1, e2⟩ := eqB_of h0
    rw [e1, e2] at hb
    unfold bt wb at hb
    split at hb <;> simp at hb
/-- What Cut answers, by lists. -/
theorem went_is {d : Dm} (h : d.Ok) (ha : d.Any) (k v : Int) :
    d.went k v = (!(lft k v d.all).isEmpty && decide ((lft k v d.all).length < d.all.length)) ∧ d.may k v = !(lft k v d.all).isEmpty ∧ ((if d.went k v then d.cut k v else d).all = if (lft k v d.all).isEmpty then d.all else lft k v d.all) := by
  have hf := fine_of h ha
  unfold Dm.went Dm.may
  cases h0 : (d.cut k v).eqB ⟨0, 0, 0⟩ with
  | true =>
    have e := lft_nil h hf k v h0
    have h1 : (d.cut k v).eqB d = false := by
      cases h1 : (d.cut k v).eqB d with
      | false => rfl
      | true =>
        obtain ⟨a1, a2⟩ := eqB_of h0
        obtain ⟨b1, b2⟩ := eqB_of h1
        have := not_zero ha
        unfold Dm.eqB at this
        rw [← b1, ← b2, a1, a2] at this
        simp at this
    rw [e, h1]
    simp
  | false =>
    have e := lft_cut h hf k v h0
    have hF := fine_of (h.cut k v) (any_words (h.cut k v) h0)
    have hne : lft k v d.all ≠ [] := by rw [e]; exact all_ne hF
    have hE : (lft k v d.all).isEmpty = false := by simpa using hne
    rw [hE]
    cases h1 : (d.cut k v).eqB d with
    | true =>
      have : (d.cut k v).all = d.all := all_eq rfl h1
      rw [e, this]
      simp
    | false =>
      have hl : (lft k v d.all).length < d.all.length := by
        have hle : (lft k v d.all).length ≤ d.all.length := List.length_filter_le _ _
        rcases Nat.lt_or_ge (lft k v d.all).length d.all.length with hq | hq
        · exact hq
        · exfalso
          have heq : lft k v d.all = d.all := (List.filter_sublist (p := fun u => !takesB k v u) (l := d.all)).eq_of_length (by unfold lft at hle hq; omega)
          have hb : ∀ j, j < 64 → bt (d.cut k v).a (d.cut k v).b j = bt d.a d.b j := fun j hj => by
            have h1 : bt (lWd (dPlc d.f v) k d.a 0) (lWd (dPlc d.f v) k d.b 1) j = (bt d.a d.b j && !takesB k v (d.f + (j : Int))) := bt_cut h.a h.b k v j hj
            show bt (lWd (dPlc d.f v) k d.a 0) (lWd (dPlc d.f v) k d.b 1) j = _
            rw [h1]
            cases hbj : bt d.a d.b j with
            | false => rfl
            | true =>
              have hm : d.f + (j : Int) ∈ d.all := (hf.all _).2 ((Dm.has_is h _).2 ⟨j, hj, rfl, hbj⟩)
              rw [← heq] at hm
              have := (List.mem_filter.1 hm).2
              simpa using this
          obtain ⟨e1, e2⟩ := bt_ext (h.cut k v).a (h.cut k v).b h.a h.b hb
          have : (d.cut k v).eqB d = true := by unfold Dm.eqB; rw [e1, e2]; simp
          rw [h1] at this
          cases this
      exact ⟨by simp [hl], by simp, by simp [e]⟩
/-- The document's new list. -/
def spanL (lo hi : Int) : List Int := (List.range (hi - lo + 1).toNat).map fun k : Nat => lo + (k : Int)
theorem spanL_up (lo hi : Int) : (spanL lo hi).Pairwise (· < ·) := by
  unfold spanL
  rw [List.pairwise_map]
  exact List.pairwise_lt_range.imp fun h => by omega
theorem spanL_mem (lo hi v : Int) : v ∈ spanL lo hi ↔ lo ≤ v ∧ v ≤ hi := by
  unfold spanL
  rw [List.mem_map]
  constructor
  · rintro ⟨k, hk, rfl⟩
    rw [List.mem_range] at hk
    omega
  · rintro ⟨h1, h2⟩
    exact ⟨(v - lo).toNat, by rw [List.mem_range]; omega, by omega⟩
theorem whole_all {v : Md.Vr} (h : Md.boundsB v.lo v.hi = true) : (wholeD v).all = spanL v.lo v.hi := by
  have hF := fine_of (wholeD_ok h) (any_new h)
  refine up_ext hF.up (spanL_up _ _) fun u => ?_
  rw [hF.all, new_has h, spanL_mem]

/-- Packed. -/
theorem wb_or {x y : Int} (hx : IsW x) (hy : IsW y) (j : Nat) : wb (bits .or .u32 x y) j = (wb x j || wb y j) := by
  unfold wb
  rw [u32_or x y hx.1 hx.2 hy.1 hy.2, Int.toNat_natCast, Nat.testBit_or]
theorem bt_or {a b c d : Int} (ha : IsW a) (hb : IsW b) (hc : IsW c) (hd : IsW d) (k : Nat) : bt (bits .or .u32 a c) (bits .or .u32 b d) k = (bt a b k || bt c d k) := by
  unfold bt
  split
  · exact wb_or ha hc k
  · exact wb_or hb hd _
theorem bt_only (q : Int) (k : Nat) (hk : k < 64) : bt (oWd q 0) (oWd q 1) k = decide (q = (k : Int)) := by
  unfold oWd
  rw [bt_less (isW_fWd _ _) (isW_fWd _ _) (isW_fWd _ _) (isW_fWd _ _) k hk, bt_from q k hk, bt_from (q + 1) k hk]
  by_cases h1 : q ≤ (k : Int) <;> by_cases h2 : q + 1 ≤ (k : Int) <;> by_cases h3 : q = (k : Int) <;> simp [h1, h2, h3] <;> omega
theorem isW_pk (l : Int) (L : List Int) (p : Int × Int) (h1 : IsW p.1) (h2 : IsW p.2) : IsW (L.foldl (pkStep l) p).1 ∧ IsW (L.foldl (pkStep l) p).2 := by
  induction L generalizing p with
  | nil => exact ⟨h1, h2⟩
  | cons v L ih => exact ih (pkStep l p v) (isW_bits .or _ _) (isW_bits .or _ _)
theorem bt_pk (l : Int) (L : List Int) (p : Int × Int) (h1 : IsW p.1) (h2 : IsW p.2) (k : Nat) (hk : k < 64) : bt (L.foldl (pkStep l) p).1 (L.foldl (pkStep l) p).2 k = (bt p.1 p.2 k || decide (l + (k : Int) ∈ L)) := by
  induction L generalizing p with
  | nil => simp
  | cons v L ih =>
    rw [List.foldl_cons, ih (pkStep l p v) (isW_bits .or _ _) (isW_bits .or _ _)]
    show (bt (bits .or .u32 p.1 (oWd (v - l) 0)) (bits .or .u32 p.2 (oWd (v - l) 1)) k || _) = _
    rw [bt_or h1 h2 (by unfold oWd; exact isW_bits _ _ _) (by unfold oWd; exact isW_bits _ _ _), bt_only (v - l) k hk, Bool.or_assoc]
    congr 1
    by_cases e : v - l = (k : Int)
    · have : l + (k : Int) = v := by omega
      simp [e, this]
    · have : l + (k : Int) ≠ v := by omega
      simp [e, this]
/-- What the program's same says of two domains. -/
def Dm.same (d e : Dm) : Bool := decide (d.lo = e.lo) && (decide ((dPack d.f d.a d.b).1 = (dPack e.f e.a e.b).1) && decide ((dPack d.f d.a d.b).2 = (dPack e.f e.a e.b).2))
theorem same_is {d e : Dm} (h : d.Ok) (ha : d.Any) (k : e.Ok) (ka : e.Any) : d.same e = decide (d.all = e.all) := by
  have hf := fine_of h ha
  have kf := fine_of k ka
  have bd : ∀ {d : Dm}, d.Ok → d.Fine → ∀ v, d.has v = true → v - d.lo < 64 ∧ 0 ≤ v - d.lo := fun {d} h hf v hv => by
    have h1 := hf.least v hv
    obtain ⟨j, hj, rfl, _⟩ := (Dm.has_is h v).1 hv
    obtain ⟨i, hi, e, _⟩ := (Dm.has_is h d.lo).1 hf.loIn
    omega
  by_cases e1 : d.all = e.all
  · have hlo : d.lo = e.lo := by
      have a1 := hf.least e.lo ((hf.all _).1 (by rw [e1]; exact (kf.all _).2 kf.loIn))
      have a2 := kf.least d.lo ((kf.all _).1 (by rw [← e1]; exact (hf.all _).2 hf.loIn))
      omega
    have hp : dPack d.f d.a d.b = dPack e.f e.a e.b := by
      show pkL d.lo d.all = pkL e.lo e.all
      rw [hlo, e1]
    unfold Dm.same
    rw [hlo, hp]
    simp [e1]
  · have : d.same e = false := by
      cases hs : d.same e with
      | false => rfl
      | true =>
        exfalso
        unfold Dm.same at hs
        simp only [Bool.and_eq_true, decide_eq_true_eq] at hs
        obtain ⟨hlo, hp1, hp2⟩ := hs
        have z : IsW (0 : Int) := by unfold IsW; omega
        refine e1 (up_ext hf.up kf.up fun v => ?_)
        have q1 := bt_pk d.lo d.all (0, 0) z z
        have q2 := bt_pk e.lo e.all (0, 0) z z
        have hq : ∀ j : Nat, j < 64 → (d.lo + (j : Int) ∈ d.all ↔ e.lo + (j : Int) ∈ e.all) := fun j hj => by
          have a1 := q1 j hj
          have a2 := q2 j hj
          have hp1 : (d.all.foldl (pkStep d.lo) (0, 0)).1 = (e.all.foldl (pkStep e.lo) (0, 0)).1 := hp1
          have hp2 : (d.all.foldl (pkStep d.lo) (0, 0)).2 = (e.all.foldl (pkStep e.lo) (0, 0)).2 := hp2
          rw [hp1, hp2, a2] at a1
          have b0 : bt (0 : Int) 0 j = false := by unfold bt wb; split <;> simp
          simp only [b0, Bool.false_or, decide_eq_decide] at a1
          exact a1.symm
        constructor
        · intro hv
          obtain ⟨c1, c2⟩ := bd h hf v ((hf.all v).1 hv)
          have := (hq (v - d.lo).toNat (by omega)).1 (by rw [show d.lo + ((v - d.lo).toNat : Int) = v by omega]; exact hv)
          rwa [show e.lo + ((v - d.lo).toNat : Int) = v by omega] at this
        · intro hv
          obtain ⟨c1, c2⟩ := bd k kf v ((kf.all v).1 hv)
          have := (hq (v - e.lo).toNat (by omega)).2 (by rw [show e.lo + ((v - e.lo).toNat : Int) = v by omega]; exact hv)
          rwa [show d.lo + ((v - e.lo).toNat : Int) = v by omega] at this
    rw [this]
    simp [e1]
end Go.Proofs.YtdfbmfikhccajaaGreatDoor
