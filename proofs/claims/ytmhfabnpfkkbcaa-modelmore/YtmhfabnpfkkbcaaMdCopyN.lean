/-
  A list of constraints of the call's own; what Copy keeps while it runs.
-/
import Derived.Test.YtmhfabnpfkkbcaaMdCopyM
namespace Go.Proofs.Ytmhfabnpfkkbcaa
open Go.RowKit

theorem KRows.less {S T : Nat → Prop} {w : World} {v : Value} {l : List (List Int)} {us : List Value} (h : KRows T w v l us) (hs : ∀ k, S k → T k) : KRows S w v l us := by
  refine ⟨h.len, ?_, fun j hj h2 => (h.each j hj h2).less hs⟩
  obtain ⟨a, cap, hv, hm, hc⟩ := h.form
  refine ⟨a, cap, hv, hm, fun h0 => ?_⟩
  obtain ⟨b, off, ha, hb, hS, hj⟩ := hc h0
  exact ⟨b, off, ha, hb, fun e => hS (hs b e), hj⟩
theorem KCn.less {S T : Nat → Prop} {w : World} {c : Md.Cn} {vt vx vb vr : Value} (h : KCn T w c vt vx vb vr) (hs : ∀ k, S k → T k) : KCn S w c vt vx vb vr := by
  obtain ⟨us, hr⟩ := h.r
  exact ⟨h.t.less hs, h.x.less hs, h.xcap, h.b.less hs, us, hr.less hs⟩
theorem SrcAt.below {w w' : World} {x : Value} {m size : Nat} {news : List Value} (h : SrcAt w x m size news) (hb : Below w.heap.size w w') : SrcAt w' x m size news := by
  obtain ⟨a, c, h1, h2, h3, h4, h5⟩ := h
  exact ⟨a, c, h1, h2, h3, h4, fun ad ha j u hj => one_next hb (h5 ad ha j u hj)⟩

/-- The row's own block. -/
abbrev ob (v : Value) : Nat → Prop := fun b => v.ownBlock = some b
structure COwn (B r : Nat) (w : World) (v : Value) (l : List Md.Cn) (xs : List Value) : Prop where
  own : w.ownsRow B 40 10 v l.length xs
  each : ∀ j (h : j < l.length), ∃ vt vx vb vr, (∀ i u, (cnCells l[j] vt vx vb vr)[i]? = some u → xs[j * 10 + i]? = some u) ∧ KCn (fun b => ob v b ∨ b = r) w l[j] vt vx vb vr
theorem COwn.next {B r : Nat} {w w' : World} {v : Value} {l : List Md.Cn} {xs : List Value} (h : COwn B r w v l xs) (hb : Below w.heap.size w w') : COwn B r w' v l xs :=
  ⟨own_off (S := fun _ => False) h.own (fun _ _ h => h) (Off.of_below hb), fun j hj => by
    obtain ⟨vt, vx, vb, vr, h1, h2⟩ := h.each j hj
    exact ⟨vt, vx, vb, vr, h1, h2.next (Off.of_below hb)⟩⟩
theorem COwn.start {w0 w : World} {B r : Nat} {v : Value} {l : List Md.Cn} {D : Nat → Value × Value × Value × Value} (h : w.ownsRow B 40 10 v l.length ((List.range l.length).flatMap fun j => cnCells (l.getD j ⟨0, 0, [], 0, 0, 0, 0, [], [], []⟩) (D j).1 (D j).2.1 (D j).2.2.1 (D j).2.2.2)) (hD : ∀ j (h : j < l.length), CnAt w0 l[j] (D j).1 (D j).2.1 (D j).2.2.1 (D j).2.2.2) (h0 : Below w0.heap.size w0 w) (hB : w0.heap.size ≤ B) (hr : w0.heap.size ≤ r) : COwn B r w v l ((List.range l.length).flatMap fun j => cnCells (l.getD j ⟨0, 0, [], 0, 0, 0, 0, [], [], []⟩) (D j).1 (D j).2.1 (D j).2.2.1 (D j).2.2.2) := by
  refine ⟨h, fun j hj => ⟨_, _, _, _, fun i u hi => ?_, KCn.old (hD j hj) h0 (fun k hk => hk.elim (fun hk => Nat.le_trans hB (h.lt k hk).1) (fun hk => by omega))⟩⟩
  have hi10 : i < 10 := (List.getElem?_eq_some_iff.1 hi).1
  have hq := flat_get (fun j => cnCells (l.getD j ⟨0, 0, [], 0, 0, 0, 0, [], [], []⟩) (D j).1 (D j).2.1 (D j).2.2.1 (D j).2.2.2) 10 (fun j => rfl) l.length j i hj hi10
  have hgd : l.getD j ⟨0, 0, [], 0, 0, 0, 0, [], [], []⟩ = l[j] := by rw [List.getD_eq_getElem?_getD, List.getElem?_eq_getElem hj]; rfl
  rw [hq]
  simp only [hgd]
  exact hi
theorem COwn.kcons {B r n cap g : Nat} {w : World} {l : List Md.Cn} {xs : List Value} (h : COwn B r w (.slice (some ⟨g, 0, none⟩) n cap) l xs) : B ≤ g ∧ ∃ cur, KCons w g r cap l cur := by
  rcases h.own.2 with ⟨hv, _⟩ | ⟨g', cap', cur, hv, hg, hc, hm, hx, hs, ht⟩
  · injection hv with h1 _ _; cases h1
  · injection hv with h1 _ h3
    injection h1 with h1
    injection h1 with h1
    subst h1 h3
    refine ⟨hg, cur, hc, hs, hm, hx, fun j hj => ?_⟩
    obtain ⟨vt, vx, vb, vr, h1, h2⟩ := h.each j hj
    refine ⟨vt, vx, vb, vr, fun i u hi => ?_, h2.less fun k hk => hk.imp (fun e => by rw [e]; rfl) id⟩
    have hi10 : i < 10 := (List.getElem?_eq_some_iff.1 hi).1
    have := h1 i u hi
    rw [← ht, List.getElem?_take, if_pos (by omega)] at this
    simpa using this
theorem KCons.cown {B r cap g : Nat} {w : World} {l : List Md.Cn} {cur : Array Value} (h : KCons w g r cap l cur) (hB : B ≤ g) : COwn B r w (.slice (some ⟨g, 0, none⟩) l.length cap) l (cur.toList.take (l.length * 10)) := by
  have hle : l.length * 10 ≤ cur.size := by rw [h.size]; exact Nat.mul_le_mul_right 10 h.le
  refine ⟨⟨by simp; omega, .inr ⟨g, cap, cur, rfl, hB, h.blk, h.le, h.max, h.size, rfl⟩⟩, fun j hj => ?_⟩
  obtain ⟨vt, vx, vb, vr, h1, h2⟩ := h.each j hj
  refine ⟨vt, vx, vb, vr, fun i u hi => ?_, h2.less fun k hk => hk.imp (fun hk => by simp [ob, Value.ownBlock] at hk; exact hk.symm) id⟩
  have hi10 : i < 10 := (List.getElem?_eq_some_iff.1 hi).1
  rw [List.getElem?_take, if_pos (by omega)]
  simpa using h1 i u hi
theorem COwn.cons {B r : Nat} {w : World} {v : Value} {l : List Md.Cn} {xs : List Value} (h : COwn B r w v l xs) (hm : l.length ≤ maxLen) : ConsAt w v l := by
  rcases own_cells h.own with ⟨rfl, hn⟩ | ⟨g, cap, rfl, _, hg, _, hc⟩
  · exact ⟨none, 0, by rw [hn], hm, fun h0 => by omega⟩
  · refine ⟨_, cap, rfl, hm, fun _ => ⟨g, 0, rfl, hg, fun j hj => ?_⟩⟩
    obtain ⟨vt, vx, vb, vr, h1, h2⟩ := h.each j hj
    have key : ∀ i u, (cnCells l[j] vt vx vb vr)[i]? = some u → w.cell? ⟨g, 0 + j * 10 + i, none⟩ = some u := fun i u hi => by rw [Nat.zero_add]; exact hc _ _ (h1 i u hi)
    exact ⟨vt, vx, vb, vr, h2.at, key 0 _ rfl, key 1 _ rfl, key 2 _ rfl, key 3 _ rfl, key 4 _ rfl, key 5 _ rfl, key 6 _ rfl, key 7 _ rfl, key 8 _ rfl, key 9 _ rfl⟩
/-- One constraint more. -/
theorem COwn.more {B r : Nat} {w w' : World} {v v' : Value} {l : List Md.Cn} {xs : List Value} {c : Md.Cn} {vt vx vb vr : Value} (h : COwn B r w v l xs) (hn : w'.ownsRow B 40 10 v' (l.length + 1) (xs ++ cnCells c vt vx vb vr)) (ho : Off (fun b => ob v b ∨ b = r) w w') (hc : CnAt w' c vt vx vb vr) (hm : l.length + 1 ≤ maxLen) : ConsAt w' v' (l ++ [c]) := by
  have hxl : xs.length = l.length * 10 := h.own.1
  rcases own_cells hn with ⟨rfl, h0⟩ | ⟨g, cap, rfl, _, hg, _, hcell⟩
  · omega
  · refine ⟨some ⟨g, 0, none⟩, cap, by rw [List.length_append, List.length_singleton], by rw [List.length_append, List.length_singleton]; exact hm, fun _ => ⟨g, 0, rfl, hg, fun j hj => ?_⟩⟩
    rw [List.length_append, List.length_singleton] at hj
    rcases Nat.lt_or_ge j l.length with h1 | h1
    · obtain ⟨v1, v2, v3, v4, h2, h3⟩ := h.each j h1
      rw [List.getElem_append_left h1]
      have key : ∀ i u, (cnCells l[j] v1 v2 v3 v4)[i]? = some u → w'.cell? ⟨g, 0 + j * 10 + i, none⟩ = some u := fun i u hi => by
        have hi10 : i < 10 := (List.getElem?_eq_some_iff.1 hi).1
        rw [Nat.zero_add]
        exact hcell _ _ (by rw [List.getElem?_append_left (by omega)]; exact h2 i u hi)
      exact ⟨v1, v2, v3, v4, (h3.next ho).at, key 0 _ rfl, key 1 _ rfl, key 2 _ rfl, key 3 _ rfl, key 4 _ rfl, key 5 _ rfl, key 6 _ rfl, key 7 _ rfl, key 8 _ rfl, key 9 _ rfl⟩
    · have e : j = l.length := by omega
      subst e
      have e1 : (l ++ [c])[l.length]'(by simp) = c := by simp
      rw [e1]
      have key : ∀ i u, (cnCells c vt vx vb vr)[i]? = some u → w'.cell? ⟨g, 0 + l.length * 10 + i, none⟩ = some u := fun i u hi => by
        rw [Nat.zero_add]
        exact hcell _ _ (by rw [List.getElem?_append_right (by omega), hxl, Nat.add_sub_cancel_left]; exact hi)
      exact ⟨vt, vx, vb, vr, hc, key 0 _ rfl, key 1 _ rfl, key 2 _ rfl, key 3 _ rfl, key 4 _ rfl, key 5 _ rfl, key 6 _ rfl, key 7 _ rfl, key 8 _ rfl, key 9 _ rfl⟩

/-- What Copy keeps. -/
structure CopyI (w : World) (m : Md.Mo) (vv vc vg : Value) (wr : World) : Prop where
  box : wr.heap[w.heap.size]? = some (.cells #[vv, vc, .bool m.has, vg] 26 (0, 0))
  res : wr.heap[w.heap.size + 1]? = some (.cells #[.slice none 0 0, .slice none 0 0, .bool false, .slice none 0 0] 26 (0, 0))
  below : Below w.heap.size w wr
  cons : ∃ xs, COwn (w.heap.size + 2) (w.heap.size + 1) wr vc m.cons xs
  vars : Kept (fun b => ob vc b ∨ b = w.heap.size + 1) wr (fun w' => VarsAt w' vv m.vars)
  vcap : ∀ a n cp, vv = .slice a n cp → n ≤ cp
  goal : Kept (fun b => ob vc b ∨ b = w.heap.size + 1) wr (fun w' => TermsAt w' vg m.goal)
theorem CopyI.next {w wr w' : World} {m : Md.Mo} {vv vc vg : Value} (h : CopyI w m vv vc vg wr) (ho : Off (ob vc) wr w') (hb : Below w.heap.size w w') (hc : ∃ xs, COwn (w.heap.size + 2) (w.heap.size + 1) w' vc m.cons xs) : CopyI w m vv vc vg w' := by
  obtain ⟨xs, hx⟩ := h.cons
  have hlt := hx.own.lt
  have hb1 := (Array.getElem?_eq_some_iff.1 h.box).1
  have hb2 := (Array.getElem?_eq_some_iff.1 h.res).1
  exact ⟨(ho.block _ hb1 (fun e => by have := (hlt _ e).1; omega)).trans h.box, (ho.block _ hb2 (fun e => by have := (hlt _ e).1; omega)).trans h.res, hb, hc, h.vars.next (ho.less fun _ => .inl), h.vcap, h.goal.next (ho.less fun _ => .inl)⟩
/-- What Copy leaves. -/
def CopyOut (w : World) (m : Md.Mo) (e : Ending) (w' : World) : Prop :=
  ∃ vv vc vg xs, e = .returned (.agg #[vv, vc, .bool m.has, vg]) ∧ Below w.heap.size w w' ∧ COwn w.heap.size (w.heap.size + 1) w' vc m.cons xs ∧ Kept (fun b => ob vc b ∨ b = w.heap.size + 1) w' (fun w2 => VarsAt w2 vv m.vars) ∧ (∀ a n cp, vv = .slice a n cp → n ≤ cp) ∧ Kept (fun b => ob vc b ∨ b = w.heap.size + 1) w' (fun w2 => TermsAt w2 vg m.goal)
theorem Off.setG {w : World} {g i : Nat} (v : Value) : Off (fun b => b = g) w (w.setCell ⟨g, i, none⟩ v) := Off.set (S := fun b => b = g) v rfl
theorem Off.then {S T : Nat → Prop} {a b c : World} (h : Off S a b) (k : Off T b c) (hT : ∀ x, T x → a.heap.size ≤ x) : Off S a c :=
  ⟨Nat.le_trans h.size k.size, fun i hi hs => (k.block i (Nat.lt_of_lt_of_le hi h.size) fun ht => by have := hT i ht; omega).trans (h.block i hi hs)⟩
theorem own_low {w : World} {B B' : Nat} {e : TypeId} {size : Nat} {v : Value} {n : Nat} {xs : List Value} (h : w.ownsRow B e size v n xs) (hB : B' ≤ B) : w.ownsRow B' e size v n xs := by
  refine ⟨h.1, ?_⟩
  rcases h.2 with h1 | ⟨g, cap, cur, hv, hg, h2⟩
  · exact .inl h1
  · exact .inr ⟨g, cap, cur, hv, Nat.le_trans hB hg, h2⟩
/-- The three lists are copied, and laid in the problem's box. -/
theorem copyI_start {w W w1 w2 w3 : World} {m : Md.Mo} {vv vc vg v1 v2 v3 : Value} {D : Nat → Value × Value × Value × Value} (hN : W.heap[w.heap.size]? = some (.cells #[vv, vc, .bool m.has, vg] 26)) (hN1 : W.heap[w.heap.size + 1]? = some (.cells #[.slice none 0 0, .slice none 0 0, .bool false, .slice none 0 0] 26)) (hs : W.heap.size = w.heap.size + 2) (hbW : Below w.heap.size w W)
    (hb1 : Below W.heap.size W w1) (hb2 : Below w1.heap.size w1 w2) (hb3 : Below w2.heap.size w2 w3) (ho1 : w1.ownsRow W.heap.size 37 3 v1 m.vars.length (varCells m.vars)) (ho2 : w2.ownsRow w1.heap.size 40 10 v2 m.cons.length ((List.range m.cons.length).flatMap fun j => cnCells (m.cons.getD j ⟨0, 0, [], 0, 0, 0, 0, [], [], []⟩) (D j).1 (D j).2.1 (D j).2.2.1 (D j).2.2.2)) (ho3 : w3.ownsRow w2.heap.size 35 2 v3 m.goal.length (termCells m.goal))
    (hD : ∀ j (h : j < m.cons.length), CnAt w m.cons[j] (D j).1 (D j).2.1 (D j).2.2.1 (D j).2.2.2) (hn : ∀ x ∈ m.vars, x.name.size ≤ maxLen) (hl : m.vars.length ≤ maxLen) (hg : m.goal.length ≤ maxLen) :
    CopyI w m v1 v2 v3 (((w3.setCell ⟨w.heap.size, 0, none⟩ v1).setCell ⟨w.heap.size, 1, none⟩ v2).setCell ⟨w.heap.size, 3, none⟩ v3) := by
  have s1 := hb1.size
  have s2 := hb2.size
  have s3 := hb3.size
  have hb13 : Below W.heap.size W w3 := (hb1.trans (hb2.mono s1)).trans (hb3.mono (by omega))
  have hbw : Below w.heap.size w w3 := hbW.trans (hb13.mono (by omega))
  have hbx : Below w.heap.size w (((w3.setCell ⟨w.heap.size, 0, none⟩ v1).setCell ⟨w.heap.size, 1, none⟩ v2).setCell ⟨w.heap.size, 3, none⟩ v3) := ((hbw.setCell (Nat.le_refl _) _).setCell (Nat.le_refl _) _).setCell (Nat.le_refl _) _
  have hoff : Off (fun b => b = w.heap.size) w3 (((w3.setCell ⟨w.heap.size, 0, none⟩ v1).setCell ⟨w.heap.size, 1, none⟩ v2).setCell ⟨w.heap.size, 3, none⟩ v3) := ((Off.setG _).trans (Off.setG _)).trans (Off.setG _)
  have e0 : w3.heap[w.heap.size]? = some (.cells #[vv, vc, .bool m.has, vg] 26) := (hb13.block _ (by omega)).trans hN
  have l1 := ho1.lt
  have l2 := ho2.lt
  have l3 := ho3.lt
  have q1 := own_off (own_off (own_off (S := fun _ => False) ho1 (fun _ _ h => h) (Off.of_below hb2)) (fun _ _ h => h) (Off.of_below hb3)) (fun g hg => by have := (l1 g hg).1; omega) hoff
  have q2 := own_off (own_off (S := fun _ => False) ho2 (fun _ _ h => h) (Off.of_below hb3)) (fun g hg => by have := (l2 g hg).1; omega) hoff
  have q3 := own_off ho3 (fun g hg => by have := (l3 g hg).1; omega) hoff
  have hc := COwn.start (r := w.heap.size + 1) q2 hD hbx (by omega) (by omega)
  refine ⟨?_, ?_, hbx, ⟨_, own_low hc.own (by omega), hc.each⟩, fun w' ho => own_vars (own_off q1 (fun g hg e => e.elim (fun e => by have := (l1 g hg).2; have := (l2 g e).1; omega) (fun e => by have := (l1 g hg).1; omega)) ho) hl hn, own_cap q1, fun w' ho => own_terms (own_off q3 (fun g hg e => e.elim (fun e => by have := (l3 g hg).1; have := (l2 g e).2; omega) (fun e => by have := (l3 g hg).1; omega)) ho) hg⟩
  · have e1 := heap_setCell_same w3 w.heap.size 0 _ 26 v1 e0
    have e2 := heap_setCell_same _ w.heap.size 1 _ 26 v2 e1
    have e3 := heap_setCell_same _ w.heap.size 3 _ 26 v3 e2
    exact e3
  · exact (hoff.block _ (by omega) (by omega)).trans ((hb13.block _ (by omega)).trans hN1)

/-- One element of a row of the call's own is written. -/
theorem own_set {w : World} {B : Nat} {e : TypeId} {g n cap j : Nat} {xs : List Value} (h : w.ownsRow B e 1 (.slice (some ⟨g, 0, none⟩) n cap) n xs) (u : Value) : (w.setCell ⟨g, j, none⟩ u).ownsRow B e 1 (.slice (some ⟨g, 0, none⟩) n cap) n (xs.set j u) := by
  rcases h.2 with ⟨hv, _⟩ | ⟨g', cap', cur, hv, hg, hc, hm, hx, hs, ht⟩
  · injection hv with h1 _ _; cases h1
  · injection hv with h1 _ h3
    injection h1 with h1
    injection h1 with h1
    subst h1 h3
    refine ⟨by rw [List.length_set]; exact h.1, .inr ⟨g, cap, cur.setIfInBounds j u, rfl, hg, heap_setCell_same w g j cur e u hc, hm, hx, by simp [hs], ?_⟩⟩
    rw [Array.toList_setIfInBounds, ← ht, List.take_set]
/-- The rows of one constraint while they are copied. -/
structure RowsC (V : World) (g r : Nat) (v : Value) (l : List (List Int)) (B : Nat) (wq : World) : Prop where
  off : Off (ob v) V wq
  row : ∃ us, wq.ownsRow B 27 1 v l.length us ∧ us.length = l.length ∧ ∀ j (h : j < us.length) (h2 : j < l.length), Kept (fun b => (b = g ∨ b = r) ∨ ob v b) wq (fun w' => IntsAt w' us[j] l[j])
theorem RowsC.step {V wq w1 : World} {g r h n cap j B : Nat} {l : List (List Int)} {v' : Value} (hR : RowsC V g r (.slice (some ⟨h, 0, none⟩) n cap) l B wq) (hn : l.length = n) (hj : j < n) (hg : g < wq.heap.size) (hr : r < wq.heap.size) (hb : Below wq.heap.size wq w1) (ho : w1.ownsRow wq.heap.size 3 1 v' (l[j]'(by omega)).length ((l[j]'(by omega)).map (.int .i64))) (hm : (l[j]'(by omega)).length ≤ maxLen) : RowsC V g r (.slice (some ⟨h, 0, none⟩) n cap) l B (w1.setCell ⟨h, j, none⟩ v') := by
  subst hn
  obtain ⟨us, h1, h2, h3⟩ := hR.row
  have hh : h < wq.heap.size := (h1.lt h rfl).2
  have o1 : Off (fun b => (b = g ∨ b = r) ∨ ob (.slice (some ⟨h, 0, none⟩) l.length cap) b) wq (w1.setCell ⟨h, j, none⟩ v') := (Off.of_below hb).trans (Off.set _ (.inr rfl))
  refine ⟨hR.off.trans ((Off.of_below hb).trans (Off.set _ rfl)), us.set j v', own_set (own_off (S := fun _ => False) h1 (fun _ _ h => h) (Off.of_below hb)) v', by rw [List.length_set]; exact h2, fun i hi h4 => ?_⟩
  rw [List.length_set] at hi
  rw [List.getElem_set]
  by_cases e : j = i
  · subst e
    rw [if_pos rfl]
    intro w' hw'
    have ho' := own_off (S := fun b => (b = g ∨ b = r) ∨ ob (.slice (some ⟨h, 0, none⟩) l.length cap) b) ho (fun k hk hS => by
      have := (ho.lt k hk).1
      rcases hS with (rfl | rfl) | hS
      · omega
      · omega
      · simp [ob, Value.ownBlock] at hS; omega) ((Off.set _ (.inr rfl)).trans hw')
    exact own_ints' ho' hm
  · rw [if_neg e]
    exact (h3 i hi h4).next o1
/-- All lists of one constraint are copied. -/
theorem copied {w wr w6 w7 w8 w9 wq V : World} {m : Md.Mo} {g cap k : Nat} {cur : Array Value} {vv vg vt vx vb vr vt' vx' vb' vr' : Value} {us : List Value} (hI : CopyI w m vv (.slice (some ⟨g, 0, none⟩) m.cons.length cap) vg wr) (hg : w.heap.size + 2 ≤ g) (hK : KCons wr g (w.heap.size + 1) cap m.cons cur) (hk : k < m.cons.length) (h0 : InArr cur (k * 10) (cnCells m.cons[k] vt vx vb vr))
    (hb6 : Below wr.heap.size wr w6) (hb7 : Below w6.heap.size w6 w7) (hb8 : Below w7.heap.size w7 w8) (hb9 : Below w8.heap.size w8 w9) (ht : w6.ownsRow wr.heap.size 35 2 vt' m.cons[k].terms.length (termCells m.cons[k].terms)) (hx : w7.ownsRow w6.heap.size 3 1 vx' m.cons[k].xs.length (m.cons[k].xs.map (.int .i64))) (hbt : w8.ownsRow w7.heap.size 3 1 vb' m.cons[k].table.length (m.cons[k].table.map (.int .i64))) (hr : w9.ownsRow w8.heap.size 27 1 vr' m.cons[k].rows.length us)
    (hV : (((w9.setCell ⟨g, k * 10 + 2, none⟩ vt').setCell ⟨g, k * 10 + 7, none⟩ vx').setCell ⟨g, k * 10 + 8, none⟩ vb').setCell ⟨g, k * 10 + 9, none⟩ vr' = V) (hR : RowsC V g (w.heap.size + 1) vr' m.cons[k].rows w8.heap.size wq) (hb : Below w.heap.size w wq)
    (hm : m.cons[k].terms.length ≤ maxLen ∧ m.cons[k].xs.length ≤ maxLen ∧ m.cons[k].table.length ≤ maxLen ∧ m.cons[k].rows.length ≤ maxLen) : CopyI w m vv (.slice (some ⟨g, 0, none⟩) m.cons.length cap) vg wq := by
  have s6 := hb6.size
  have s7 := hb7.size
  have s8 := hb8.size
  have s9 := hb9.size
  have hgl : g < wr.heap.size := (Array.getElem?_eq_some_iff.1 hK.blk).1
  have hb69 : Below wr.heap.size wr w9 := ((hb6.trans (hb7.mono s6)).trans (hb8.mono (by omega))).trans (hb9.mono (by omega))
  have hoV : Off (fun b => b = g) w9 V := by rw [← hV]; exact (((Off.setG _).trans (Off.setG _)).trans (Off.setG _)).trans (Off.setG _)
  have hoW : Off (fun b => b = g) wr V := (Off.of_below hb69).trans hoV
  have hrl := hr.lt
  have hyoung : ∀ x, ob vr' x → wr.heap.size ≤ x := fun x hx => by have := (hrl x hx).1; omega
  have hoq : Off (fun b => b = g) wr wq := hoW.then hR.off hyoung
  have e9 : w9.heap[g]? = some (.cells cur 40 (0, 0)) := (hb69.block g hgl).trans hK.blk
  have eV : V.heap[g]? = some (.cells ((((cur.setIfInBounds (k * 10 + 2) vt').setIfInBounds (k * 10 + 7) vx').setIfInBounds (k * 10 + 8) vb').setIfInBounds (k * 10 + 9) vr') 40 (0, 0)) := by
    rw [← hV]
    exact heap_setCell_same _ g _ _ 40 vr' (heap_setCell_same _ g _ _ 40 vb' (heap_setCell_same _ g _ _ 40 vx' (heap_setCell_same w9 g _ cur 40 vt' e9)))
  have hsV : w9.heap.size ≤ V.heap.size := hoV.size
  have eq : wq.heap[g]? = some (.cells ((((cur.setIfInBounds (k * 10 + 2) vt').setIfInBounds (k * 10 + 7) vx').setIfInBounds (k * 10 + 8) vb').setIfInBounds (k * 10 + 9) vr') 40 (0, 0)) := (hR.off.block g (by omega) (fun e => by have := (hrl g e).1; omega)).trans eV
  have lt := ht.lt
  have lx := hx.lt
  have lb := hbt.lt
  have t2 := own_off (own_off (own_off (own_off (own_off (S := fun _ => False) ht (fun _ _ h => h) (Off.of_below hb7)) (fun _ _ h => h) (Off.of_below hb8)) (fun _ _ h => h) (Off.of_below hb9)) (fun b hb => by have := (lt b hb).1; omega) hoV) (fun b hb e => by have := (lt b hb).2; have := (hrl b e).1; omega) hR.off
  have x2 := own_off (own_off (own_off (own_off (S := fun _ => False) hx (fun _ _ h => h) (Off.of_below hb8)) (fun _ _ h => h) (Off.of_below hb9)) (fun b hb => by have := (lx b hb).1; omega) hoV) (fun b hb e => by have := (lx b hb).2; have := (hrl b e).1; omega) hR.off
  have b2 := own_off (own_off (own_off (S := fun _ => False) hbt (fun _ _ h => h) (Off.of_below hb9)) (fun b hb => by have := (lb b hb).1; omega) hoV) (fun b hb e => by have := (lb b hb).2; have := (hrl b e).1; omega) hR.off
  obtain ⟨us', r1, r2, r3⟩ := hR.row
  have hn : KCn (fun b => b = g ∨ b = w.heap.size + 1) wq m.cons[k] vt' vx' vb' vr' :=
    ⟨keptown_terms t2 (fun b hb e => by omega) hm.1, keptown_ints x2 (fun b hb e => by omega) hm.2.1, own_cap x2, keptown_ints b2 (fun b hb e => by omega) hm.2.2.1, us', KRows.own r1 r2 hm.2.2.2 (fun b hb e => by omega) fun j hj h2 => (r3 j hj h2).less fun _ e => .inl e⟩
  have hKn := hK.write hk h0 (hoq.less fun _ => .inl) eq hn
  exact hI.next (hoq.less fun b e => by rw [e]; rfl) hb ⟨_, hKn.cown hg⟩
theorem rowsC_start {wr w8 w9 V : World} {g r : Nat} {vr vr' : Value} {l : List (List Int)} {us : List Value} (hU : KRows (fun b => b = g ∨ b = r) wr vr l us) (hb : Below wr.heap.size wr w9) (h8 : wr.heap.size ≤ w8.heap.size) (hr : w9.ownsRow w8.heap.size 27 1 vr' l.length us) (hV : Off (fun b => b = g) w9 V) (hg : g < wr.heap.size) : RowsC V g r vr' l w8.heap.size V :=
  ⟨Off.refl _ _, us, own_off hr (fun b hb => by have := (hr.lt b hb).1; omega) hV, hU.len, fun j h h2 => (hU.each j h h2).young ((Off.of_below hb).trans (hV.less fun _ => .inl)) (fun b e => e.elim .inl (fun e => .inr (by have := (hr.lt b e).1; omega)))⟩
theorem CopyI.done {w wr w' : World} {m : Md.Mo} {vv vc vg : Value} (h : CopyI w m vv vc vg wr) (ho : Off (fun b => b = w.heap.size + 1) wr w') (hb : Below w.heap.size w w') : CopyOut w m (.returned (.agg #[vv, vc, .bool m.has, vg])) w' := by
  obtain ⟨xs, hx⟩ := h.cons
  refine ⟨vv, vc, vg, xs, rfl, hb, ⟨own_low (own_off hx.own (fun b hb => by have := (hx.own.lt b hb).1; omega) ho) (by omega), fun j hj => ?_⟩, h.vars.next (ho.less fun _ => .inr), h.vcap, h.goal.next (ho.less fun _ => .inr)⟩
  obtain ⟨vt, vx, vb, vr, h1, h2⟩ := hx.each j hj
  exact ⟨vt, vx, vb, vr, h1, h2.next (ho.less fun _ => .inr)⟩
end Go.Proofs.Ytmhfabnpfkkbcaa
