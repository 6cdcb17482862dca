/-
  Put together: DmCopyL, DmCopied.
-/
import Derived.Test.YtchpapppkmnfnaaGreatDoorJ36
import Derived.Test.YtchpapppkmnfnaaGreatDoorJ21
namespace Go.Proofs.YtchpapppkmnfnaaGreatDoor
open Go.RowKit

theorem KRows.young {S T : Nat → Prop} {w w1 : World} {v : Value} {l : List (List Int)} {us : List Value} (h : KRows S w v l us) (ho : Off S w w1) (hT : ∀ b, T b → S b ∨ w.heap.size ≤ b) : KRows T w1 v l us := by
  refine ⟨h.len, ?_, fun j hj h2 => (h.each j hj h2).young ho hT⟩
  obtain ⟨a, cap, hv, hm, hc⟩ := h.form
  refine ⟨a, cap, hv, hm, fun h0 => ?_⟩
  obtain ⟨b, off, ha, hb, hS, hj⟩ := hc h0
  exact ⟨b, off, ha, Nat.lt_of_lt_of_le hb ho.size, fun ht => (hT b ht).elim hS (fun h => by omega), fun j h => (World.cell?_of_block (a := ⟨b, off + j, none⟩) (ho.block b hb hS)).trans (hj j h)⟩
theorem KCn.young {S T : Nat → Prop} {w w1 : World} {c : Md.Cn} {vt vx vb vr : Value} (h : KCn S w c vt vx vb vr) (ho : Off S w w1) (hT : ∀ b, T b → S b ∨ w.heap.size ≤ b) : KCn T w1 c vt vx vb vr := by
  obtain ⟨us, hr⟩ := h.r
  exact ⟨h.t.young ho hT, h.x.young ho hT, h.xcap, h.b.young ho hT, us, hr.young ho hT⟩
/-- The constraints so far, in a row of the call's own. -/
def Segs (S : Nat → Prop) (w : World) (cs : List Md.Cn) (k : Nat) (xs : List Value) : Prop :=
  xs.length = k * 10 ∧ ∀ j (h : j < cs.length), j < k → ∃ vt vx vb vr, (∀ i u, (cnCells cs[j] vt vx vb vr)[i]? = some u → xs[j * 10 + i]? = some u) ∧ KCn S w cs[j] vt vx vb vr
theorem Segs.young {S T : Nat → Prop} {w w1 : World} {cs : List Md.Cn} {k : Nat} {xs : List Value} (h : Segs S w cs k xs) (ho : Off S w w1) (hT : ∀ b, T b → S b ∨ w.heap.size ≤ b) : Segs T w1 cs k xs :=
  ⟨h.1, fun j hj hk => by
    obtain ⟨vt, vx, vb, vr, h1, h2⟩ := h.2 j hj hk
    exact ⟨vt, vx, vb, vr, h1, h2.young ho hT⟩⟩
theorem Segs.more {S : Nat → Prop} {w : World} {cs : List Md.Cn} {k : Nat} {xs : List Value} {vt vx vb vr : Value} (h : Segs S w cs k xs) (hk : k < cs.length) (hn : KCn S w cs[k] vt vx vb vr) : Segs S w cs (k + 1) (xs ++ cnCells cs[k] vt vx vb vr) := by
  refine ⟨by rw [List.length_append, h.1]; simp [cnCells]; omega, fun j hj hlt => ?_⟩
  by_cases e : j = k
  · subst e
    refine ⟨vt, vx, vb, vr, fun i u hi => ?_, hn⟩
    rw [List.getElem?_append_right (by rw [h.1]; omega), h.1, show j * 10 + i - j * 10 = i by omega]
    exact hi
  · obtain ⟨a1, a2, a3, a4, h1, h2⟩ := h.2 j hj (by omega)
    refine ⟨a1, a2, a3, a4, fun i u hi => ?_, h2⟩
    have := h1 i u hi
    rw [List.getElem?_append_left (List.getElem?_eq_some_iff.1 this).1]
    exact this
theorem Segs.cons {S : Nat → Prop} {w : World} {cs : List Md.Cn} {xs : List Value} {B : Nat} {v : Value} (h : Segs S w cs cs.length xs) (ho : w.ownsRow B 78 10 v cs.length xs) (hm : cs.length ≤ maxLen) (hS : ∀ g, B ≤ g → ¬ S g) : Kept S w (fun w' => ConsAt w' v cs) := fun w' hof => by
  have ho' := own_off ho (fun g hg => hS g (ho.lt g hg).1) hof
  rcases own_cells ho' with ⟨rfl, hn⟩ | ⟨g, cap, rfl, _, hg, _, hc⟩
  · exact ⟨none, 0, by rw [hn], hm, fun h0 => by omega⟩
  · refine ⟨_, cap, rfl, hm, fun _ => ⟨g, 0, rfl, hg, fun j hj => ?_⟩⟩
    obtain ⟨vt, vx, vb, vr, h1, h2⟩ := h.2 j hj hj
    have key : ∀ i u, (cnCells cs[j] vt vx vb vr)[i]? = some u → w'.cell? ⟨g, 0 + j * 10 + i, none⟩ = some u := fun i u hi => by
      rw [Nat.zero_add]
      exact hc _ _ (h1 i u hi)
    exact ⟨vt, vx, vb, vr, (h2.next hof).at, key 0 _ rfl, key 1 _ rfl, key 2 _ rfl, key 3 _ rfl, key 4 _ rfl, key 5 _ rfl, key 6 _ rfl, key 7 _ rfl, key 8 _ rfl, key 9 _ rfl⟩
theorem set4 {w : World} {N : Nat} {a0 a1 a2 a3 : Value} {t : TypeId} (h : w.heap[N]? = some (.cells #[a0, a1, a2, a3] t (0, 0))) (b0 b1 b2 b3 : Value) : ((((w.setCell ⟨N, 0, none⟩ b0).setCell ⟨N, 1, none⟩ b1).setCell ⟨N, 2, none⟩ b2).setCell ⟨N, 3, none⟩ b3).heap[N]? = some (.cells #[b0, b1, b2, b3] t (0, 0)) := by
  have hE := heap_setCell_same _ N 3 _ t b3 (heap_setCell_same _ N 2 _ t b2 (heap_setCell_same _ N 1 _ t b1 (heap_setCell_same w N 0 _ t b0 h)))
  simpa only [List.setIfInBounds_toArray, List.set_cons_zero, List.set_cons_succ] using hE
theorem off_set4 {S : Nat → Prop} {w : World} {N : Nat} (hS : S N) (b0 b1 b2 b3 : Value) : Off S w ((((w.setCell ⟨N, 0, none⟩ b0).setCell ⟨N, 1, none⟩ b1).setCell ⟨N, 2, none⟩ b2).setCell ⟨N, 3, none⟩ b3) := (((Off.set _ hS).trans (Off.set _ hS)).trans (Off.set _ hS)).trans (Off.set _ hS)
theorem info71 : (Tryz.prog.info? 78).map (fun i => (i.zero, i.size, i.bytes)) = some (some (.agg #[.int .i64 0, .int .i64 0, .slice none 0 0, .int .i64 0, .int .i64 0, .int .i64 0, .int .i64 0, .slice none 0 0, .slice none 0 0, .slice none 0 0]), 10, 144) := by kernel_rfl
theorem info39 : (Tryz.prog.info? 34).map (fun i => (i.zero, i.size, i.bytes)) = some (some (.agg #[.string ⟨#[]⟩, .int .i64 0, .int .i64 0]), 3, 32) := by kernel_rfl
theorem info113 : (Tryz.prog.info? 160).map (fun i => (i.zero, i.size, i.bytes)) = some (some (.agg #[.int .i64 0, .int .i64 0]), 2, 16) := by kernel_rfl
theorem un22 : Tryz.prog.underlying 22 = some (.slice 34) := by kernel_rfl
theorem un23 : Tryz.prog.underlying 23 = some (.slice 78) := by kernel_rfl
theorem un24 : Tryz.prog.underlying 24 = some (.slice 160) := by kernel_rfl
/-- Rows of two types lie in two blocks. -/
theorem own_ne {w : World} {B B' : Nat} {e e' : TypeId} {s s' : Nat} {u v : Value} {n m : Nat} {xs ys : List Value} (he : e ≠ e') (h : w.ownsRow B e s u n xs) (k : w.ownsRow B' e' s' v m ys) : ∀ g, u.ownBlock = some g → v.ownBlock ≠ some g := by
  intro g hg hv
  rcases h.2 with ⟨h1, _⟩ | ⟨g1, cap, cur, h1, _, hc1, _⟩
  · rw [h1] at hg; simp [Value.ownBlock] at hg
  · rcases k.2 with ⟨k1, _⟩ | ⟨g2, cap2, cur2, k1, _, hc2, _⟩
    · rw [k1] at hv; simp [Value.ownBlock] at hv
    · rw [h1] at hg
      rw [k1] at hv
      simp [Value.ownBlock] at hg hv
      subst hg hv
      rw [hc1] at hc2
      injection hc2 with hc2
      injection hc2 with _ h3
      exact he h3
/-- A problem that can be copied. -/
structure MoFit (m : Md.Mo) : Prop where
  v : m.vars.length ≤ 300
  c : m.cons.length ≤ 300
  g : m.goal.length ≤ 300
  l : ∀ c ∈ m.cons, c.terms.length * 16 ≤ 140737488355328 ∧ c.xs.length * 8 ≤ 140737488355328 ∧ c.table.length * 8 ≤ 140737488355328
/-- What copied leaves. -/
def CdOut (m : Md.Mo) (w : World) (e : Ending) (w' : World) : Prop := ∃ vv vc vg, e = .returned (moVal m vv vc vg) ∧ MoAt w' m vv vc vg ∧ Below w.heap.size w w' ∧ ∃ cs, w'.ownsRow w.heap.size 34 3 vv m.vars.length cs
end Go.Proofs.YtchpapppkmnfnaaGreatDoor

namespace Go.Proofs.YtchpapppkmnfnaaGreatDoor
open Go.RowKit

/-- copied under way: the problem's box, the answer's, the copy's. -/
structure CdI (w : World) (Mc Oc : Array Value) (w' : World) : Prop where
  below : Below w.heap.size w w'
  size : w.heap.size + 3 ≤ w'.heap.size
  b0 : w'.heap[w.heap.size]? = some (.cells Mc 26 (0, 0))
  b1 : w'.heap[w.heap.size + 1]? = some (.cells #[.slice none 0 0, .slice none 0 0, .bool false, .slice none 0 0] 26 (0, 0))
  b2 : w'.heap[w.heap.size + 1 + 1]? = some (.cells Oc 26 (0, 0))
theorem CdI.next {w w1 w2 : World} {Mc Oc : Array Value} (h : CdI w Mc Oc w1) (hb : Below (w.heap.size + 3) w1 w2) : CdI w Mc Oc w2 :=
  ⟨h.below.trans (hb.mono (by omega)), Nat.le_trans h.size hb.size, (hb.block _ (by omega)).trans h.b0, (hb.block _ (by omega)).trans h.b1, (hb.block _ (by omega)).trans h.b2⟩
theorem CdI.set {w w1 : World} {Mc Oc : Array Value} (h : CdI w Mc Oc w1) (j : Nat) (u : Value) : CdI w Mc (Oc.setIfInBounds j u) (w1.setCell ⟨w.heap.size + 1 + 1, j, none⟩ u) :=
  ⟨h.below.setCell (by simp; omega) _, by simpa using h.size, (heap_setCell_other _ _ _ _ (by simp; omega)).trans h.b0, (heap_setCell_other _ _ _ _ (by simp)).trans h.b1, heap_setCell_same _ _ _ _ _ _ h.b2⟩
theorem row_set {w : World} {N j B : Nat} {e : TypeId} {size : Nat} {v u : Value} {n : Nat} {xs : List Value} (h : w.ownsRow B e size v n xs) (hN : N < B) : (w.setCell ⟨N, j, none⟩ u).ownsRow B e size v n xs :=
  row_kept h fun g hg => heap_setCell_other _ _ _ _ (by have := (row_lt h hg).1; simp; omega)

/-- A first copy is laid into the copy's box. -/
theorem cd_put {w W w1 : World} {Mc Oc : Array Value} {e : TypeId} {size n : Nat} {v : Value} {xs : List Value} (hI : CdI w Mc Oc W) (ho : w1.ownsRow (w.heap.size + 3) e size v n xs) (hg : W.grownBy w1 (Value.slice none 0 0).ownBlock) (j : Nat) :
    CdI w Mc Oc w1 ∧ CdI w Mc (Oc.setIfInBounds j v) (w1.setCell ⟨w.heap.size + 1 + 1, j, none⟩ v) ∧ (w1.setCell ⟨w.heap.size + 1 + 1, j, none⟩ v).ownsRow (w.heap.size + 3) e size v n xs := by
  have hb : Below (w.heap.size + 3) W w1 := (Below.refl _ _).grown hg hI.size (fun g hg => by simp [Value.ownBlock] at hg)
  exact ⟨hI.next hb, (hI.next hb).set j v, row_set ho (by omega)⟩
theorem cd_keep {w W w1 : World} {e : TypeId} {size n : Nat} {v u : Value} {xs : List Value} (h : W.ownsRow (w.heap.size + 3) e size v n xs) (hg : W.grownBy w1 (Value.slice none 0 0).ownBlock) (j : Nat) : (w1.setCell ⟨w.heap.size + 1 + 1, j, none⟩ u).ownsRow (w.heap.size + 3) e size v n xs :=
  row_set (row_kept h (fun g hg2 => hg.block g (row_lt h hg2).2 (by simp [Value.ownBlock]))) (by omega)

/-- The blocks that are still written. -/
def CdS (w : World) (cv : Value) (b : Nat) : Prop := b = w.heap.size + 1 ∨ b = w.heap.size + 1 + 1 ∨ cv.ownBlock = some b
/-- One constraint's box. -/
structure BxI (wr : World) (Bc : Array Value) (w' : World) : Prop where
  below : Below wr.heap.size wr w'
  size : wr.heap.size + 1 ≤ w'.heap.size
  blk : w'.heap[wr.heap.size]? = some (.cells Bc 78 (0, 0))
theorem bx_put {wr X w1 : World} {Bc : Array Value} {e : TypeId} {size n : Nat} {v : Value} {xs : List Value} (hI : BxI wr Bc X) (ho : w1.ownsRow (wr.heap.size + 1) e size v n xs) (hg : X.grownBy w1 (Value.slice none 0 0).ownBlock) (j : Nat) :
    BxI wr Bc w1 ∧ BxI wr (Bc.setIfInBounds j v) (w1.setCell ⟨wr.heap.size, j, none⟩ v) ∧ (w1.setCell ⟨wr.heap.size, j, none⟩ v).ownsRow (wr.heap.size + 1) e size v n xs := by
  have hb : Below (wr.heap.size + 1) X w1 := (Below.refl _ _).grown hg hI.size (fun g hg => by simp [Value.ownBlock] at hg)
  have h1 : BxI wr Bc w1 := ⟨hI.below.trans (hb.mono (by omega)), Nat.le_trans hI.size hb.size, (hb.block _ (by omega)).trans hI.blk⟩
  exact ⟨h1, ⟨h1.below.setCell (Nat.le_refl _) _, by simpa using h1.size, heap_setCell_same _ _ _ _ _ _ h1.blk⟩, row_set ho (by omega)⟩
theorem bx_keep {wr X w1 : World} {e : TypeId} {size n : Nat} {v u : Value} {xs : List Value} (h : X.ownsRow (wr.heap.size + 1) e size v n xs) (hg : X.grownBy w1 (Value.slice none 0 0).ownBlock) (j : Nat) : (w1.setCell ⟨wr.heap.size, j, none⟩ u).ownsRow (wr.heap.size + 1) e size v n xs :=
  row_set (row_kept h (fun g hg2 => hg.block g (row_lt h hg2).2 (by simp [Value.ownBlock]))) (by omega)
/-- One constraint more. -/
theorem cd_step {w wr Y w8 : World} {Mc : Array Value} {V1 cv cv' hs G1 T X Tb R : Value} {cons : List Md.Cn} {k nv ng : Nat} {xs us : List Value} {vx gx : List Value} (hk : k < cons.length)
    (hC : CdI w Mc #[V1, cv, hs, G1] wr) (hB : Below wr.heap.size wr Y) (hcv : wr.ownsRow (w.heap.size + 3) 78 10 cv k xs) (hSg : Segs (CdS w cv) wr cons k xs) (hV : wr.ownsRow (w.heap.size + 3) 34 3 V1 nv vx) (hG : wr.ownsRow (w.heap.size + 3) 160 2 G1 ng gx)
    (hK : KCn (CdS w cv) Y cons[k] T X Tb R) (ho8 : w8.ownsRow (w.heap.size + 3) 78 10 cv' (k + 1) (xs ++ cnCells cons[k] T X Tb R)) (hg8 : (Y.alloc (.cells us.toArray 78)).grownBy w8 cv.ownBlock) (hn8 : cv'.ownBlock = cv.ownBlock ∨ cv'.ownBlock = some (Y.heap.size + 1)) :
    CdI w Mc #[V1, cv', hs, G1] (w8.setCell ⟨w.heap.size + 1 + 1, 1, none⟩ cv') ∧ CdI w Mc #[V1, cv, hs, G1] w8 ∧ (w8.setCell ⟨w.heap.size + 1 + 1, 1, none⟩ cv').ownsRow (w.heap.size + 3) 78 10 cv' (k + 1) (xs ++ cnCells cons[k] T X Tb R) ∧ Segs (CdS w cv') (w8.setCell ⟨w.heap.size + 1 + 1, 1, none⟩ cv') cons (k + 1) (xs ++ cnCells cons[k] T X Tb R) ∧ (w8.setCell ⟨w.heap.size + 1 + 1, 1, none⟩ cv').ownsRow (w.heap.size + 3) 34 3 V1 nv vx ∧ (w8.setCell ⟨w.heap.size + 1 + 1, 1, none⟩ cv').ownsRow (w.heap.size + 3) 160 2 G1 ng gx := by
  have hsz : w.heap.size + 3 ≤ Y.heap.size := Nat.le_trans hC.size hB.size
  have hYa : Below Y.heap.size Y (Y.alloc (.cells us.toArray 78)) := (Below.refl _ _).alloc (Nat.le_refl _) _
  have hwY : Below wr.heap.size wr (Y.alloc (.cells us.toArray 78)) := hB.trans (hYa.mono hB.size)
  have hcvY : (Y.alloc (.cells us.toArray 78)).ownsRow (w.heap.size + 3) 78 10 cv k xs := own_below hcv hwY
  have hb8 : Below (w.heap.size + 3) (Y.alloc (.cells us.toArray 78)) w8 := (Below.refl _ _).grown hg8 (Nat.le_trans hsz hYa.size) (fun g hg => (row_lt hcvY hg).1)
  have hC8 : CdI w Mc #[V1, cv, hs, G1] w8 := (hC.next (hwY.mono hC.size)).next hb8
  have keep : ∀ {e : TypeId} {size n : Nat} {v : Value} {ys : List Value}, e ≠ 78 → wr.ownsRow (w.heap.size + 3) e size v n ys → (w8.setCell ⟨w.heap.size + 1 + 1, 1, none⟩ cv').ownsRow (w.heap.size + 3) e size v n ys := by
    intro e size n v ys he h
    have h1 := own_below h hwY
    exact row_set (row_kept h1 (fun g hg => hg8.block g (row_lt h1 hg).2 (fun e2 => own_ne he h1 hcvY g hg e2.symm))) (by omega)
  have hC9 := hC8.set 1 cv'
  refine ⟨by simpa only [List.setIfInBounds_toArray, List.set_cons_zero, List.set_cons_succ] using hC9, hC8, row_set ho8 (by omega), ?_, keep (by decide) hV, keep (by decide) hG⟩
  have hS1 : Segs (CdS w cv) Y cons (k + 1) (xs ++ cnCells cons[k] T X Tb R) := (hSg.young (Off.of_below hB) (fun b h => .inl h)).more hk hK
  have hoff : Off (CdS w cv) Y (w8.setCell ⟨w.heap.size + 1 + 1, 1, none⟩ cv') := ((Off.of_below hYa).trans (Off.grown hg8 (fun g hg => .inr (.inr hg)))).trans (Off.set _ (.inr (.inl rfl)))
  refine hS1.young hoff (fun b h => ?_)
  rcases h with h | h | h
  · exact .inl (.inl h)
  · exact .inl (.inr (.inl h))
  · rcases hn8 with hn | hn
    · exact .inl (.inr (.inr (hn ▸ h)))
    · rw [hn] at h
      injection h with h
      exact .inr (by omega)

theorem own_capN {w : World} {B : Nat} {e : TypeId} {size : Nat} {v : Value} {n : Nat} {xs : List Value} (h : w.ownsRow B e size v n xs) : ∀ a m cp, v = .slice a m cp → m ≤ cp := by
  intro a m cp hv
  rcases h.2 with ⟨h1, h2⟩ | ⟨g, cap, cur, h1, _, _, hn, _⟩
  · rw [h1] at hv
    injection hv with _ e1 e2
    omega
  · rw [h1] at hv
    injection hv with _ e1 e2
    omega
theorem kcn_new {w wr Y : World} {Mc Oc : Array Value} {cv T X Tb vt vx vb R : Value} {k : Nat} {xs : List Value} {c : Md.Cn} (hC : CdI w Mc Oc wr) (hcv : wr.ownsRow (w.heap.size + 3) 78 10 cv k xs) (hw : CnAt w c vt vx vb R) (hB : Below wr.heap.size wr Y)
    (rT : Y.ownsRow (wr.heap.size + 1) 160 2 T c.terms.length (termCells c.terms)) (rX : Y.ownsRow (wr.heap.size + 1) 3 1 X c.xs.length (c.xs.map (.int .i64))) (rB : Y.ownsRow (wr.heap.size + 1) 3 1 Tb c.table.length (c.table.map (.int .i64))) (ht : c.terms.length ≤ maxLen) (hx : c.xs.length ≤ maxLen) (hb : c.table.length ≤ maxLen) : KCn (CdS w cv) Y c T X Tb R := by
  have hs := hC.size
  have hS1 : ∀ g, wr.heap.size + 1 ≤ g → ¬ CdS w cv g := fun g hg h => by
    rcases h with h | h | h
    · omega
    · omega
    · have := (row_lt hcv h).2
      omega
  have hS2 : ∀ g, CdS w cv g → w.heap.size ≤ g := fun g h => by
    rcases h with h | h | h
    · omega
    · omega
    · have := (row_lt hcv h).1
      omega
  exact ⟨keptown_terms rT hS1 ht, keptown_ints rX hS1 hx, own_capN rX, keptown_ints rB hS1 hb, KRows.old hw.r (hC.below.trans (hB.mono hC.below.size)) hS2⟩

set_option maxRecDepth 10000 in
set_option maxHeartbeats 2000000 in
theorem copied_any (m : Md.Mo) (vv vc vg : Value) (w : World) (h : MoAt w m vv vc vg) (hf : MoFit m) : Calls Tryz.prog 6 #[moVal m vv vc vg] w (CdOut m w) := by
  obtain ⟨va, vp, rfl, hvm, hvn, hvo⟩ := id h.v
  obtain ⟨ca, cp, rfl, hcm, hco⟩ := id h.c
  obtain ⟨ga, gp, rfl, hgm⟩ := h.g.form
  obtain ⟨hf1, hf2, hf3, hf4⟩ := hf
  obtain ⟨W0, hW⟩ : ∃ W, ((w.alloc (.cells #[.slice va m.vars.length vp, .slice ca m.cons.length cp, .bool m.has, .slice ga m.goal.length gp] 26)).alloc (.cells #[.slice none 0 0, .slice none 0 0, .bool false, .slice none 0 0] 26)).alloc (.cells #[.slice none 0 0, .slice none 0 0, .bool m.has, .slice none 0 0] 26) = W := ⟨_, rfl⟩
  have hb00 : Below w.heap.size w W0 := by rw [← hW]; exact (((Below.refl _ _).alloc (Nat.le_refl _) _).alloc (by simp) _).alloc (by simp; omega) _
  have hI0 : CdI w #[.slice va m.vars.length vp, .slice ca m.cons.length cp, .bool m.has, .slice ga m.goal.length gp] #[.slice none 0 0, .slice none 0 0, .bool m.has, .slice none 0 0] W0 := by
    refine ⟨hb00, by rw [← hW]; simp, ?_, ?_, ?_⟩
    · rw [← hW]; exact alloc3_0 w _ _ _
    · rw [← hW]; exact alloc3_1 w _ _ _
    · rw [← hW]; exact alloc3_2 w _ _ _
  obtain ⟨W, hW1⟩ : ∃ W, W0.setCell ⟨w.heap.size + 1 + 1, 3, none⟩ (.slice none 0 0) = W := ⟨_, rfl⟩
  have hI : CdI w #[.slice va m.vars.length vp, .slice ca m.cons.length cp, .bool m.has, .slice ga m.goal.length gp] #[.slice none 0 0, .slice none 0 0, .bool m.has, .slice none 0 0] W := by
    rw [← hW1]
    have := hI0.set 3 (.slice none 0 0)
    simpa only [List.setIfInBounds_toArray, List.set_cons_zero, List.set_cons_succ] using this
  have hb0 := hI.below
  have z3 : W0.cell? ⟨w.heap.size + 1 + 1, 3, none⟩ = some (.slice none 0 0) := cell_of hI0.b2 3
  have zz : ∀ i, W0.frozen? ⟨w.heap.size + 1 + 1, i, none⟩ = false := frozen_of hI0.b2
  have z2 : W0.cell? ⟨w.heap.size, 2, none⟩ = some (.bool m.has) := cell_of hI0.b0 2
  have HI : Hid (CdI w #[.slice va m.vars.length vp, .slice ca m.cons.length cp, .bool m.has, .slice ga m.goal.length gp] #[.slice none 0 0, .slice none 0 0, .bool m.has, .slice none 0 0] W) := hI
  have HM : Hid (∀ w', Below w.heap.size w w' → MoAt w' m (.slice va m.vars.length vp) (.slice ca m.cons.length cp) (.slice ga m.goal.length gp)) := fun w' hb => h.below hb
  have HF : Hid (∀ c ∈ m.cons, c.terms.length * 16 ≤ 140737488355328 ∧ c.xs.length * 8 ≤ 140737488355328 ∧ c.table.length * 8 ≤ 140737488355328) := hf4
  have HVN : Hid (∀ x ∈ m.vars, x.name.size ≤ maxLen) := hvn
  have a0 : W.cell? ⟨w.heap.size, 0, none⟩ = some (.slice va m.vars.length vp) := cell_of hI.b0 0
  have a2 : W.cell? ⟨w.heap.size, 2, none⟩ = some (.bool m.has) := cell_of hI.b0 2
  have o0 : W.cell? ⟨w.heap.size + 1 + 1, 0, none⟩ = some (.slice none 0 0) := cell_of hI.b2 0
  have oz : ∀ i, W.frozen? ⟨w.heap.size + 1 + 1, i, none⟩ = false := frozen_of hI.b2
  have HSr : Hid (SrcAt W (.slice va m.vars.length vp) m.vars.length 3 (varCells m.vars)) := (HM.out W hb0).v.src
  have HNil : Hid (∀ (w : World) (B : Nat) (e : TypeId) (s : Nat), w.ownsRow B e s (.slice none 0 0) 0 []) := fun w B e s => World.ownsRow_nil w B e s
  clear h hb0 hf4 hvn hvo hco hI hI0 hb00
  unfold moVal
  go_enter Tryz.func6, Tryz.ntmps6
  go_wp2_with (first
    | (at_builtin; refine append_src W rfl (.const (.slice none 0 0)) (.tmp 10) 22 34 (.agg #[.string ⟨#[]⟩, .int .i64 0, .int .i64 0]) 3 32 rfl un22 info39 rfl (by decide) (w.heap.size + 3) _ _ 0 m.vars.length [] _ (by rfl) (by rfl) (HNil.out _ _ _ _) HSr.out (by unfold maxLen; omega) (by omega) HI.out.size ?_; intro v1 w1 ho1 hg1 hn1; rw [Nat.zero_add, List.nil_append] at ho1; obtain ⟨a1, c1, rfl⟩ := own_slice ho1; obtain ⟨hI1, hJ1, hV1⟩ := cd_put HI.out ho1 hg1 0; (have p0 : w1.cell? ⟨w.heap.size + 1 + 1, 0, none⟩ = some (.slice none 0 0) := cell_of hI1.b2 0); (have pz : ∀ i, w1.frozen? ⟨w.heap.size + 1 + 1, i, none⟩ = false := frozen_of hI1.b2); obtain ⟨Y1, hY1⟩ : ∃ Y, w1.setCell ⟨w.heap.size + 1 + 1, 0, none⟩ (.slice a1 m.vars.length c1) = Y := ⟨_, rfl⟩; rw [hY1] at hJ1 hV1; (have q3 : Y1.cell? ⟨w.heap.size, 3, none⟩ = some (.slice ga m.goal.length gp) := cell_of hJ1.b0 3); (have HJ1 : Hid (CdI w #[.slice va m.vars.length vp, .slice ca m.cons.length cp, .bool m.has, .slice ga m.goal.length gp] #[.slice a1 m.vars.length c1, .slice none 0 0, .bool m.has, .slice none 0 0] Y1) := hJ1); (have HV1 : Hid (Y1.ownsRow (w.heap.size + 3) 34 3 (.slice a1 m.vars.length c1) m.vars.length (varCells m.vars)) := hV1); (have HSg : Hid (SrcAt Y1 (.slice ga m.goal.length gp) m.goal.length 2 (termCells m.goal)) := (HM.out Y1 hJ1.below).g.src); clear hI1 hg1 hn1 ho1 hJ1 hV1)
    | (at_builtin; refine append_src Y1 rfl (.const (.slice none 0 0)) (.tmp 14) 24 160 (.agg #[.int .i64 0, .int .i64 0]) 2 16 rfl un24 info113 rfl (by decide) (w.heap.size + 3) _ _ 0 m.goal.length [] _ (by rfl) (by rfl) (HNil.out _ _ _ _) HSg.out (by unfold maxLen; omega) (by omega) HJ1.out.size ?_; intro v2 w2 ho2 hg2 hn2; rw [Nat.zero_add, List.nil_append] at ho2; obtain ⟨a2, c2, rfl⟩ := own_slice ho2; obtain ⟨hI2, hJ2, hG2⟩ := cd_put HJ1.out ho2 hg2 3; (have hV2 := cd_keep (u := .slice a2 m.goal.length c2) HV1.out hg2 3); (have p3 : w2.cell? ⟨w.heap.size + 1 + 1, 3, none⟩ = some (.slice none 0 0) := cell_of hI2.b2 3); (have pz2 : ∀ i, w2.frozen? ⟨w.heap.size + 1 + 1, i, none⟩ = false := frozen_of hI2.b2); obtain ⟨Y2, hY2⟩ : ∃ Y, w2.setCell ⟨w.heap.size + 1 + 1, 3, none⟩ (.slice a2 m.goal.length c2) = Y := ⟨_, rfl⟩; rw [hY2] at hJ2 hV2 hG2; (have HJ2 : Hid (CdI w #[.slice va m.vars.length vp, .slice ca m.cons.length cp, .bool m.has, .slice ga m.goal.length gp] #[.slice a1 m.vars.length c1, .slice none 0 0, .bool m.has, .slice a2 m.goal.length c2] Y2) := hJ2); (have HV2 : Hid (Y2.ownsRow (w.heap.size + 3) 34 3 (.slice a1 m.vars.length c1) m.vars.length (varCells m.vars)) := hV2); (have HG2 : Hid (Y2.ownsRow (w.heap.size + 3) 160 2 (.slice a2 m.goal.length c2) m.goal.length (termCells m.goal)) := hG2); clear hI2 hg2 hn2 ho2 hJ2 hV2 hG2))
  clear a0 o0 oz z2 z3 zz hW hW1 p0 pz hY1 q3 p3 pz2 hY2
  go_loopw [4] (fun iv wr => ∃ (k : Nat) (ka : Option Addr) (kc : Nat) (xs : List Value), iv = .int .i64 (k : Int) ∧ k ≤ m.cons.length ∧ Hid (CdI w #[.slice va m.vars.length vp, .slice ca m.cons.length cp, .bool m.has, .slice ga m.goal.length gp] #[.slice a1 m.vars.length c1, .slice ka k kc, .bool m.has, .slice a2 m.goal.length c2] wr) ∧ Hid (wr.ownsRow (w.heap.size + 3) 78 10 (.slice ka k kc) k xs) ∧ Hid (Segs (CdS w (.slice ka k kc)) wr m.cons k xs) ∧ Hid (wr.ownsRow (w.heap.size + 3) 34 3 (.slice a1 m.vars.length c1) m.vars.length (varCells m.vars)) ∧ Hid (wr.ownsRow (w.heap.size + 3) 160 2 (.slice a2 m.goal.length c2) m.goal.length (termCells m.goal))) (fun iv _ => m.cons.length - (intOf iv).toNat)
  case atStart => exact ⟨0, none, 0, [], rfl, Nat.zero_le _, HJ2, HNil.out _ _ _ _, ⟨rfl, fun j _ h => absurd h (Nat.not_lt_zero _)⟩, HV2, HG2⟩
  case round =>
    obtain ⟨k, ka, kc, xs, rfl, hk, HC, HO, HSeg, HV, HG⟩ := hrel
    have m1 : wr.cell? ⟨w.heap.size, 1, none⟩ = some (.slice ca m.cons.length cp) := cell_of HC.out.b0 1
    by_cases hkn : k < m.cons.length
    · have hkI : (k : Int) < (m.cons.length : Int) := by omega
      have hconsAt := (HM.out w (Below.refl _ _)).c
      obtain ⟨_, _, hce, _, hco2⟩ := hconsAt
      injection hce with hce1 hce2 hce3
      subst hce1
      clear hce2 hce3
      obtain ⟨b, off, rfl, hbl, hall⟩ := hco2 (by omega)
      obtain ⟨vt, vx, vb, vr, hCn, d0, d1, d2, d3, d4, d5, d6, d7, d8, d9⟩ := hall k hkn
      have HFc := HF.out m.cons[k] (List.getElem_mem hkn)
      have HStep : Hid (∀ (Y w8 : World) (cv' T X Tb R : Value) (us : List Value), Below wr.heap.size wr Y → KCn (CdS w (.slice ka k kc)) Y m.cons[k] T X Tb R → w8.ownsRow (w.heap.size + 3) 78 10 cv' (k + 1) (xs ++ cnCells m.cons[k] T X Tb R) → (Y.alloc (.cells us.toArray 78)).grownBy w8 (Value.slice ka k kc).ownBlock → (cv'.ownBlock = (Value.slice ka k kc).ownBlock ∨ cv'.ownBlock = some (Y.heap.size + 1)) → CdI w #[.slice va m.vars.length vp, .slice (some ⟨b, off, none⟩) m.cons.length cp, .bool m.has, .slice ga m.goal.length gp] #[.slice a1 m.vars.length c1, cv', .bool m.has, .slice a2 m.goal.length c2] (w8.setCell ⟨w.heap.size + 1 + 1, 1, none⟩ cv') ∧ CdI w #[.slice va m.vars.length vp, .slice (some ⟨b, off, none⟩) m.cons.length cp, .bool m.has, .slice ga m.goal.length gp] #[.slice a1 m.vars.length c1, .slice ka k kc, .bool m.has, .slice a2 m.goal.length c2] w8 ∧ (w8.setCell ⟨w.heap.size + 1 + 1, 1, none⟩ cv').ownsRow (w.heap.size + 3) 78 10 cv' (k + 1) (xs ++ cnCells m.cons[k] T X Tb R) ∧ Segs (CdS w cv') (w8.setCell ⟨w.heap.size + 1 + 1, 1, none⟩ cv') m.cons (k + 1) (xs ++ cnCells m.cons[k] T X Tb R) ∧ (w8.setCell ⟨w.heap.size + 1 + 1, 1, none⟩ cv').ownsRow (w.heap.size + 3) 34 3 (.slice a1 m.vars.length c1) m.vars.length (varCells m.vars) ∧ (w8.setCell ⟨w.heap.size + 1 + 1, 1, none⟩ cv').ownsRow (w.heap.size + 3) 160 2 (.slice a2 m.goal.length c2) m.goal.length (termCells m.goal)) := fun Y w8 cv' T X Tb R us h1 h2 h3 h4 h5 => cd_step hkn HC.out h1 HO.out HSeg.out HV.out HG.out h2 h3 h4 h5
      clear hall hco2
      generalize m.cons[k] = c at *
      obtain ⟨ta, tc, rfl, htm⟩ := hCn.t.form
      obtain ⟨xa, xc, rfl, hxm⟩ := hCn.x.form
      obtain ⟨ba, bc, rfl, hbm⟩ := hCn.b.form
      obtain ⟨ra, rc, rfl, _⟩ := hCn.r.form
      have HCn : Hid (CnAt w c (.slice ta c.terms.length tc) (.slice xa c.xs.length xc) (.slice ba c.table.length bc) (.slice ra c.rows.length rc)) := hCn
      have tr : ∀ {i : Nat} {u : Value}, w.cell? ⟨b, i, none⟩ = some u → wr.cell? ⟨b, i, none⟩ = some u := fun h => (HC.out.below.cell (p := ⟨b, _, none⟩) hbl).trans h
      replace d0 := tr d0
      replace d1 := tr d1
      replace d2 := tr d2
      replace d3 := tr d3
      replace d4 := tr d4
      replace d5 := tr d5
      replace d6 := tr d6
      replace d7 := tr d7
      replace d8 := tr d8
      replace d9 := tr d9
      clear tr hCn
      obtain ⟨X0, hX0⟩ : ∃ X, wr.alloc (.cells #[.int .i64 c.kind, .int .i64 c.op, .slice ta c.terms.length tc, .int .i64 c.k, .int .i64 c.v, .int .i64 c.x, .int .i64 c.y, .slice xa c.xs.length xc, .slice ba c.table.length bc, .slice ra c.rows.length rc] 78) = X := ⟨_, rfl⟩
      have hB0 : BxI wr #[.int .i64 c.kind, .int .i64 c.op, .slice ta c.terms.length tc, .int .i64 c.k, .int .i64 c.v, .int .i64 c.x, .int .i64 c.y, .slice xa c.xs.length xc, .slice ba c.table.length bc, .slice ra c.rows.length rc] X0 := by
        rw [← hX0]
        exact ⟨(Below.refl _ _).alloc (Nat.le_refl _) _, by simp, heap_alloc_new wr _⟩
      have e2 : X0.cell? ⟨wr.heap.size, 2, none⟩ = some (.slice ta c.terms.length tc) := cell_of hB0.blk 2
      have HBx0 : Hid (BxI wr #[.int .i64 c.kind, .int .i64 c.op, .slice ta c.terms.length tc, .int .i64 c.k, .int .i64 c.v, .int .i64 c.x, .int .i64 c.y, .slice xa c.xs.length xc, .slice ba c.table.length bc, .slice ra c.rows.length rc] X0) := hB0
      have HS0 : Hid (SrcAt X0 (.slice ta c.terms.length tc) c.terms.length 2 (termCells c.terms)) := (HCn.out.below (HC.out.below.trans (hB0.below.mono HC.out.below.size))).t.src
      have HWx : Hid (∀ X, Below wr.heap.size wr X → Below w.heap.size w X) := fun X h => HC.out.below.trans (h.mono HC.out.below.size)
      clear hB0
      obtain ⟨hf5, hf6, hf7⟩ := HFc
      have Hone : Hid (∀ (ta1 xa1 ba1 : Option Addr) (tc1 xc1 bc1 : Nat), ∀ u ∈ ([.int .i64 c.kind, .int .i64 c.op, .slice ta1 c.terms.length tc1, .int .i64 c.k, .int .i64 c.v, .int .i64 c.x, .int .i64 c.y, .slice xa1 c.xs.length xc1, .slice ba1 c.table.length bc1, .slice ra c.rows.length rc] : List Value), u.oneCell' = true) := by
        intro ta1 xa1 ba1 tc1 xc1 bc1 u hu
        simp only [List.mem_cons, List.not_mem_nil, or_false] at hu
        rcases hu with rfl | rfl | rfl | rfl | rfl | rfl | rfl | rfl | rfl | rfl <;> rfl
      go_wp2_with (first
        | (at_builtin; refine append_src X0 rfl (.const (.slice none 0 0)) (.tmp 30) 24 160 (.agg #[.int .i64 0, .int .i64 0]) 2 16 rfl un24 info113 rfl (by decide) (wr.heap.size + 1) _ _ 0 c.terms.length [] _ (by rfl) (by rfl) (HNil.out _ _ _ _) HS0.out (by unfold maxLen; omega) (by omega) HBx0.out.size ?_; intro vN wN hoN hgN hnN; rw [Nat.zero_add, List.nil_append] at hoN; obtain ⟨ta1, tc1, rfl⟩ := own_slice hoN; obtain ⟨hIN, hJN, hRN⟩ := bx_put HBx0.out hoN hgN 2; (have pN0 : wN.cell? ⟨wr.heap.size, 2, none⟩ = some (.slice ta c.terms.length tc) := cell_of hIN.blk 2); (have pzN0 : ∀ i, wN.frozen? ⟨wr.heap.size, i, none⟩ = false := frozen_of hIN.blk); obtain ⟨X1, hXN0⟩ : ∃ Y, wN.setCell ⟨wr.heap.size, 2, none⟩ (.slice ta1 c.terms.length tc1) = Y := ⟨_, rfl⟩; rw [hXN0] at hJN hRN ; (have HBx1 : Hid (BxI wr #[.int .i64 c.kind, .int .i64 c.op, .slice ta1 c.terms.length tc1, .int .i64 c.k, .int .i64 c.v, .int .i64 c.x, .int .i64 c.y, .slice xa c.xs.length xc, .slice ba c.table.length bc, .slice ra c.rows.length rc] X1) := hJN); (have HRo1 : Hid (X1.ownsRow (wr.heap.size + 1) 160 2 (.slice ta1 c.terms.length tc1) c.terms.length (termCells c.terms)) := hRN); (have f7 : X1.cell? ⟨wr.heap.size, 7, none⟩ = some (.slice xa c.xs.length xc) := cell_of HBx1.out.blk 7); (have HS1 : Hid (SrcAt X1 (.slice xa c.xs.length xc) c.xs.length 1 (c.xs.map (.int .i64))) := (HCn.out.below (HWx.out X1 HBx1.out.below)).x.src); clear hIN hgN hnN hoN hJN hRN )
        | (at_builtin; refine append_src X1 rfl (.const (.slice none 0 0)) (.tmp 34) 42 3 (.int .i64 0) 1 8 rfl und53 info3 rfl (by decide) (wr.heap.size + 1) _ _ 0 c.xs.length [] _ (by rfl) (by rfl) (HNil.out _ _ _ _) HS1.out (by unfold maxLen; omega) (by omega) HBx1.out.size ?_; intro vN wN hoN hgN hnN; rw [Nat.zero_add, List.nil_append] at hoN; obtain ⟨xa1, xc1, rfl⟩ := own_slice hoN; obtain ⟨hIN, hJN, hRN⟩ := bx_put HBx1.out hoN hgN 7; (have pN1 : wN.cell? ⟨wr.heap.size, 7, none⟩ = some (.slice xa c.xs.length xc) := cell_of hIN.blk 7); (have pzN1 : ∀ i, wN.frozen? ⟨wr.heap.size, i, none⟩ = false := frozen_of hIN.blk); (have hkHRo1 := bx_keep (u := .slice xa1 c.xs.length xc1) HRo1.out hgN 7); obtain ⟨X2, hXN1⟩ : ∃ Y, wN.setCell ⟨wr.heap.size, 7, none⟩ (.slice xa1 c.xs.length xc1) = Y := ⟨_, rfl⟩; rw [hXN1] at hJN hRN hkHRo1; (have HBx2 : Hid (BxI wr #[.int .i64 c.kind, .int .i64 c.op, .slice ta1 c.terms.length tc1, .int .i64 c.k, .int .i64 c.v, .int .i64 c.x, .int .i64 c.y, .slice xa1 c.xs.length xc1, .slice ba c.table.length bc, .slice ra c.rows.length rc] X2) := hJN); (have HRo2 : Hid (X2.ownsRow (wr.heap.size + 1) 3 1 (.slice xa1 c.xs.length xc1) c.xs.length (c.xs.map (.int .i64))) := hRN); (have HRo1' : Hid (X2.ownsRow (wr.heap.size + 1) 160 2 (.slice ta1 c.terms.length tc1) c.terms.length (termCells c.terms)) := hkHRo1); (have f8 : X2.cell? ⟨wr.heap.size, 8, none⟩ = some (.slice ba c.table.length bc) := cell_of HBx2.out.blk 8); (have HS2 : Hid (SrcAt X2 (.slice ba c.table.length bc) c.table.length 1 (c.table.map (.int .i64))) := (HCn.out.below (HWx.out X2 HBx2.out.below)).b.src); clear hIN hgN hnN hoN hJN hRN hkHRo1)
        | (at_builtin; refine append_src X2 rfl (.const (.slice none 0 0)) (.tmp 38) 42 3 (.int .i64 0) 1 8 rfl und53 info3 rfl (by decide) (wr.heap.size + 1) _ _ 0 c.table.length [] _ (by rfl) (by rfl) (HNil.out _ _ _ _) HS2.out (by unfold maxLen; omega) (by omega) HBx2.out.size ?_; intro vN wN hoN hgN hnN; rw [Nat.zero_add, List.nil_append] at hoN; obtain ⟨ba1, bc1, rfl⟩ := own_slice hoN; obtain ⟨hIN, hJN, hRN⟩ := bx_put HBx2.out hoN hgN 8; (have pN2 : wN.cell? ⟨wr.heap.size, 8, none⟩ = some (.slice ba c.table.length bc) := cell_of hIN.blk 8); (have pzN2 : ∀ i, wN.frozen? ⟨wr.heap.size, i, none⟩ = false := frozen_of hIN.blk); (have hkHRo1' := bx_keep (u := .slice ba1 c.table.length bc1) HRo1'.out hgN 8); (have hkHRo2 := bx_keep (u := .slice ba1 c.table.length bc1) HRo2.out hgN 8); obtain ⟨X3, hXN2⟩ : ∃ Y, wN.setCell ⟨wr.heap.size, 8, none⟩ (.slice ba1 c.table.length bc1) = Y := ⟨_, rfl⟩; rw [hXN2] at hJN hRN hkHRo1' hkHRo2; (have HBx3 : Hid (BxI wr #[.int .i64 c.kind, .int .i64 c.op, .slice ta1 c.terms.length tc1, .int .i64 c.k, .int .i64 c.v, .int .i64 c.x, .int .i64 c.y, .slice xa1 c.xs.length xc1, .slice ba1 c.table.length bc1, .slice ra c.rows.length rc] X3) := hJN); (have HRo3 : Hid (X3.ownsRow (wr.heap.size + 1) 3 1 (.slice ba1 c.table.length bc1) c.table.length (c.table.map (.int .i64))) := hRN); (have HRo1'' : Hid (X3.ownsRow (wr.heap.size + 1) 160 2 (.slice ta1 c.terms.length tc1) c.terms.length (termCells c.terms)) := hkHRo1'); (have HRo2' : Hid (X3.ownsRow (wr.heap.size + 1) 3 1 (.slice xa1 c.xs.length xc1) c.xs.length (c.xs.map (.int .i64))) := hkHRo2); (have y0 : X3.cell? ⟨wr.heap.size, 0, none⟩ = some (.int .i64 c.kind) := cell_of HBx3.out.blk 0); (have y1 : X3.cell? ⟨wr.heap.size, 1, none⟩ = some (.int .i64 c.op) := cell_of HBx3.out.blk 1); (have y2 : X3.cell? ⟨wr.heap.size, 2, none⟩ = some (.slice ta1 c.terms.length tc1) := cell_of HBx3.out.blk 2); (have y3 : X3.cell? ⟨wr.heap.size, 3, none⟩ = some (.int .i64 c.k) := cell_of HBx3.out.blk 3); (have y4 : X3.cell? ⟨wr.heap.size, 4, none⟩ = some (.int .i64 c.v) := cell_of HBx3.out.blk 4); (have y5 : X3.cell? ⟨wr.heap.size, 5, none⟩ = some (.int .i64 c.x) := cell_of HBx3.out.blk 5); (have y6 : X3.cell? ⟨wr.heap.size, 6, none⟩ = some (.int .i64 c.y) := cell_of HBx3.out.blk 6); (have y7 : X3.cell? ⟨wr.heap.size, 7, none⟩ = some (.slice xa1 c.xs.length xc1) := cell_of HBx3.out.blk 7); (have y8 : X3.cell? ⟨wr.heap.size, 8, none⟩ = some (.slice ba1 c.table.length bc1) := cell_of HBx3.out.blk 8); (have y9 : X3.cell? ⟨wr.heap.size, 9, none⟩ = some (.slice ra c.rows.length rc) := cell_of HBx3.out.blk 9); (have hC3 := HC.out.next (HBx3.out.below.mono HC.out.size)); (have yo : X3.cell? ⟨w.heap.size + 1 + 1, 1, none⟩ = some (.slice ka k kc) := cell_of hC3.b2 1); (have HO3 : Hid (X3.ownsRow (w.heap.size + 3) 78 10 (.slice ka k kc) k xs) := own_below HO.out HBx3.out.below); (have HZ3 : Hid (w.heap.size + 3 ≤ X3.heap.size) := hC3.size); clear hC3; clear hIN hgN hnN hoN hJN hRN hkHRo1' hkHRo2)
        | (at_builtin; refine append_els X3 [.int .i64 c.kind, .int .i64 c.op, .slice ta1 c.terms.length tc1, .int .i64 c.k, .int .i64 c.v, .int .i64 c.x, .int .i64 c.y, .slice xa1 c.xs.length xc1, .slice ba1 c.table.length bc1, .slice ra c.rows.length rc] 10 rfl (by decide) rfl (.tmp 42) (.tmp 44) 23 78 (.agg #[.int .i64 0, .int .i64 0, .slice none 0 0, .int .i64 0, .int .i64 0, .int .i64 0, .int .i64 0, .slice none 0 0, .slice none 0 0, .slice none 0 0]) 144 rfl un23 info71 rfl (w.heap.size + 3) _ _ _ (by rfl) HO3.out (Hone.out _ _ _ _ _ _) _ rfl (by rfl) (by unfold maxLen; omega) (by omega) HZ3.out ?_; intro v8 w8 ho8 hg8 hn8; obtain ⟨a8, c8, rfl⟩ := own_slice ho8; (have hst := HStep.out X3 w8 (.slice a8 (k + 1) c8) (.slice ta1 c.terms.length tc1) (.slice xa1 c.xs.length xc1) (.slice ba1 c.table.length bc1) (.slice ra c.rows.length rc) _ HBx3.out.below (kcn_new HC.out HO.out HCn.out HBx3.out.below HRo1''.out HRo2'.out HRo3.out htm hxm hbm) ho8 hg8 hn8); (have y8a : w8.cell? ⟨w.heap.size + 1 + 1, 1, none⟩ = some (.slice ka k kc) := cell_of hst.2.1.b2 1); (have y8z : ∀ i, w8.frozen? ⟨w.heap.size + 1 + 1, i, none⟩ = false := frozen_of hst.2.1.b2); (have HST : Hid (CdI w #[.slice va m.vars.length vp, .slice (some ⟨b, off, none⟩) m.cons.length cp, .bool m.has, .slice ga m.goal.length gp] #[.slice a1 m.vars.length c1, .slice a8 (k + 1) c8, .bool m.has, .slice a2 m.goal.length c2] (w8.setCell ⟨w.heap.size + 1 + 1, 1, none⟩ (.slice a8 (k + 1) c8)) ∧ _) := hst); clear ho8 hg8 hn8 hst))
      go_roundw
      case rel => first | exact ⟨k + 1, a8, c8, _, by go_num, hkn, HST.out.1, HST.out.2.2.1, HST.out.2.2.2.1, HST.out.2.2.2.2.1, HST.out.2.2.2.2.2⟩ | exact ⟨k + 1, by omega, a8, c8, _, hkn, HST.out.1, HST.out.2.2.1, HST.out.2.2.2.1, HST.out.2.2.2.2.1, HST.out.2.2.2.2.2⟩ | exact ⟨k + 1, by go_num, a8, c8, hkn, HST.out.1, _, HST.out.2.2.1, HST.out.2.2.2.1, HST.out.2.2.2.2.1, HST.out.2.2.2.2.2⟩ | exact ⟨k + 1, by omega, hkn, a8, c8, HST.out.1, _, HST.out.2.2.1, HST.out.2.2.2.1, HST.out.2.2.2.2.1, HST.out.2.2.2.2.2⟩
      case measure => simp [intOf]; omega
    · have hke : k = m.cons.length := by omega
      subst hke
      have x0 : wr.cell? ⟨w.heap.size + 1 + 1, 0, none⟩ = some (.slice a1 m.vars.length c1) := cell_of HC.out.b2 0
      have x1 : wr.cell? ⟨w.heap.size + 1 + 1, 1, none⟩ = some (.slice ka m.cons.length kc) := cell_of HC.out.b2 1
      have x2 : wr.cell? ⟨w.heap.size + 1 + 1, 2, none⟩ = some (.bool m.has) := cell_of HC.out.b2 2
      have x3 : wr.cell? ⟨w.heap.size + 1 + 1, 3, none⟩ = some (.slice a2 m.goal.length c2) := cell_of HC.out.b2 3
      have r0 : wr.cell? ⟨w.heap.size + 1, 0, none⟩ = some (.slice none 0 0) := cell_of HC.out.b1 0
      have r1 : wr.cell? ⟨w.heap.size + 1, 1, none⟩ = some (.slice none 0 0) := cell_of HC.out.b1 1
      have r2 : wr.cell? ⟨w.heap.size + 1, 2, none⟩ = some (.bool false) := cell_of HC.out.b1 2
      have r3 : wr.cell? ⟨w.heap.size + 1, 3, none⟩ = some (.slice none 0 0) := cell_of HC.out.b1 3
      have rz : ∀ i, wr.frozen? ⟨w.heap.size + 1, i, none⟩ = false := frozen_of HC.out.b1
      go_wp2_with fail
      have hEq := set4 HC.out.b1 (.slice a1 m.vars.length c1) (.slice ka m.cons.length kc) (.bool m.has) (.slice a2 m.goal.length c2)
      have hof : Off (fun b => b = w.heap.size + 1) wr ((((wr.setCell ⟨w.heap.size + 1, 0, none⟩ (.slice a1 m.vars.length c1)).setCell ⟨w.heap.size + 1, 1, none⟩ (.slice ka m.cons.length kc)).setCell ⟨w.heap.size + 1, 2, none⟩ (.bool m.has)).setCell ⟨w.heap.size + 1, 3, none⟩ (.slice a2 m.goal.length c2)) := off_set4 (S := fun b => b = w.heap.size + 1) rfl _ _ _ _
      refine bodyPost_ret (v := moVal m (.slice a1 m.vars.length c1) (.slice ka m.cons.length kc) (.slice a2 m.goal.length c2)) (results_cell_row Tryz.results6 _ _ (w.heap.size + 1) 26 _ (0, 0) _ rfl hEq Tryz.underlying26 rfl (by kernel_rfl)) rfl ?_
      have hS : ∀ g, w.heap.size + 3 ≤ g → ¬ (g = w.heap.size + 1) := fun g hg => by omega
      have hsg : Segs (fun b => b = w.heap.size + 1) wr m.cons m.cons.length xs := HSeg.out.young (Off.refl _ _) (fun b h => .inl (.inl h))
      have hV3 : ∀ w', Off (fun b => b = w.heap.size + 1) wr w' → w'.ownsRow w.heap.size 34 3 (.slice a1 m.vars.length c1) m.vars.length (varCells m.vars) := fun w' ho => by
        refine ⟨HV.out.1, ?_⟩
        rcases HV.out.2 with h1 | ⟨g, cap, cur, hv, hg, hc, h2⟩
        · exact .inl h1
        · exact .inr ⟨g, cap, cur, hv, by omega, (ho.block g (Array.getElem?_eq_some_iff.1 hc).1 (by omega)).trans hc, h2⟩
      exact ⟨_, _, _, rfl, ⟨keptown_vars HV.out hS hvm HVN.out _ hof, own_capN HV.out, hsg.cons HO.out hcm hS _ hof, keptown_terms HG.out hS hgm _ hof⟩, (((HC.out.below.setCell (by simp) _).setCell (by simp) _).setCell (by simp) _).setCell (by simp) _, _, hV3 _ hof⟩
end Go.Proofs.YtchpapppkmnfnaaGreatDoor
