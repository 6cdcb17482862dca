/-
  Copies of constraints, in a row of the call's own.
-/
import Derived.Test.YtakdboddbgihpaaDoorJ42
import Derived.Test.YtakdboddbgihpaaDoorMdCopyM
namespace Go.Proofs.YtakdboddbgihpaaDoor
open Go.RowKit

theorem KRows.young {S T : Nat → Prop} {w w1 : World} {v : Value} {l : List (List Int)} {us : List Value} (h : KRows S w v l us) (ho : Off S w w1) (hT : ∀ b, T b → S b ∨ w.heap.size ≤ b) : KRows T w1 v l us := by
  refine ⟨h.len, ?_, fun j hj h2 => (h.each j hj h2).young ho hT⟩
  obtain ⟨a, cap, hv, hm, hc⟩ := h.form
  refine ⟨a, cap, hv, hm, fun h0 => ?_⟩
  obtain ⟨b, off, ha, hb, hS, hj⟩ := hc h0
  exact ⟨b, off, ha, Nat.lt_of_lt_of_le hb ho.size, fun ht => (hT b ht).elim hS (fun h => by omega), fun j h => (World.cell?_of_block (a := ⟨b, off + j, none⟩) (ho.block b hb hS)).trans (hj j h)⟩
theorem KCn.young {S T : Nat → Prop} {w w1 : World} {c : Md.Cn} {vt vx vb vr : Value} (h : KCn S w c vt vx vb vr) (ho : Off S w w1) (hT : ∀ b, T b → S b ∨ w.heap.size ≤ b) : KCn T w1 c vt vx vb vr := by
  obtain ⟨us, hr⟩ := h.r
  exact ⟨h.t.young ho hT, h.x.young ho hT, h.xcap, h.b.young ho hT, us, hr.young ho hT⟩
/-- The constraints so far, in a row of the call's own. -/
def Segs (S : Nat → Prop) (w : World) (cs : List Md.Cn) (k : Nat) (xs : List Value) : Prop :=
  xs.length = k * 10 ∧ ∀ j (h : j < cs.length), j < k → ∃ vt vx vb vr, (∀ i u, (cnCells cs[j] vt vx vb vr)[i]? = some u → xs[j * 10 + i]? = some u) ∧ KCn S w cs[j] vt vx vb vr
theorem Segs.young {S T : Nat → Prop} {w w1 : World} {cs : List Md.Cn} {k : Nat} {xs : List Value} (h : Segs S w cs k xs) (ho : Off S w w1) (hT : ∀ b, T b → S b ∨ w.heap.size ≤ b) : Segs T w1 cs k xs :=
  ⟨h.1, fun j hj hk => by
    obtain ⟨vt, vx, vb, vr, h1, h2⟩ := h.2 j hj hk
    exact ⟨vt, vx, vb, vr, h1, h2.young ho hT⟩⟩
theorem Segs.more {S : Nat → Prop} {w : World} {cs : List Md.Cn} {k : Nat} {xs : List Value} {vt vx vb vr : Value} (h : Segs S w cs k xs) (hk : k < cs.length) (hn : KCn S w cs[k] vt vx vb vr) : Segs S w cs (k + 1) (xs ++ cnCells cs[k] vt vx vb vr) := by
  refine ⟨by rw [List.length_append, h.1]; simp [cnCells]; omega, fun j hj hlt => ?_⟩
  by_cases e : j = k
  · subst e
    refine ⟨vt, vx, vb, vr, fun i u hi => ?_, hn⟩
    rw [List.getElem?_append_right (by rw [h.1]; omega), h.1, show j * 10 + i - j * 10 = i by omega]
    exact hi
  · obtain ⟨a1, a2, a3, a4, h1, h2⟩ := h.2 j hj (by omega)
    refine ⟨a1, a2, a3, a4, fun i u hi => ?_, h2⟩
    have := h1 i u hi
    rw [List.getElem?_append_left (List.getElem?_eq_some_iff.1 this).1]
    exact this
theorem Segs.cons {S : Nat → Prop} {w : World} {cs : List Md.Cn} {xs : List Value} {B : Nat} {v : Value} (h : Segs S w cs cs.length xs) (ho : w.ownsRow B 71 10 v cs.length xs) (hm : cs.length ≤ maxLen) (hS : ∀ g, B ≤ g → ¬ S g) : Kept S w (fun w' => ConsAt w' v cs) := fun w' hof => by
  have ho' := own_off ho (fun g hg => hS g (ho.lt g hg).1) hof
  rcases own_cells ho' with ⟨rfl, hn⟩ | ⟨g, cap, rfl, _, hg, _, hc⟩
  · exact ⟨none, 0, by rw [hn], hm, fun h0 => by omega⟩
  · refine ⟨_, cap, rfl, hm, fun _ => ⟨g, 0, rfl, hg, fun j hj => ?_⟩⟩
    obtain ⟨vt, vx, vb, vr, h1, h2⟩ := h.2 j hj hj
    have key : ∀ i u, (cnCells cs[j] vt vx vb vr)[i]? = some u → w'.cell? ⟨g, 0 + j * 10 + i, none⟩ = some u := fun i u hi => by
      rw [Nat.zero_add]
      exact hc _ _ (h1 i u hi)
    exact ⟨vt, vx, vb, vr, (h2.next hof).at, key 0 _ rfl, key 1 _ rfl, key 2 _ rfl, key 3 _ rfl, key 4 _ rfl, key 5 _ rfl, key 6 _ rfl, key 7 _ rfl, key 8 _ rfl, key 9 _ rfl⟩
theorem set4 {w : World} {N : Nat} {a0 a1 a2 a3 : Value} {t : TypeId} (h : w.heap[N]? = some (.cells #[a0, a1, a2, a3] t (0, 0))) (b0 b1 b2 b3 : Value) : ((((w.setCell ⟨N, 0, none⟩ b0).setCell ⟨N, 1, none⟩ b1).setCell ⟨N, 2, none⟩ b2).setCell ⟨N, 3, none⟩ b3).heap[N]? = some (.cells #[b0, b1, b2, b3] t (0, 0)) := by
  have hE := heap_setCell_same _ N 3 _ t b3 (heap_setCell_same _ N 2 _ t b2 (heap_setCell_same _ N 1 _ t b1 (heap_setCell_same w N 0 _ t b0 h)))
  simpa only [List.setIfInBounds_toArray, List.set_cons_zero, List.set_cons_succ] using hE
theorem off_set4 {S : Nat → Prop} {w : World} {N : Nat} (hS : S N) (b0 b1 b2 b3 : Value) : Off S w ((((w.setCell ⟨N, 0, none⟩ b0).setCell ⟨N, 1, none⟩ b1).setCell ⟨N, 2, none⟩ b2).setCell ⟨N, 3, none⟩ b3) := (((Off.set _ hS).trans (Off.set _ hS)).trans (Off.set _ hS)).trans (Off.set _ hS)
theorem cp_set4 {N : Nat} {w1 : World} {cur : Array Value} {t : TypeId} (hN : w1.heap[N]? = some (.cells cur t (0, 0))) (j : Nat) (u : Value) :
    (w1.setCell ⟨N, j, none⟩ u).heap[N]? = some (.cells (cur.setIfInBounds j u) t (0, 0)) ∧ Off (fun b => b = N) w1 (w1.setCell ⟨N, j, none⟩ u) :=
  ⟨heap_setCell_same _ _ _ _ _ _ hN, Off.set _ rfl⟩

theorem info71 : (Tryd.prog.info? 71).map (fun i => (i.zero, i.size, i.bytes)) = some (some (.agg #[.int .i64 0, .int .i64 0, .slice none 0 0, .int .i64 0, .int .i64 0, .int .i64 0, .int .i64 0, .slice none 0 0, .slice none 0 0, .slice none 0 0]), 10, 144) := by kernel_rfl
theorem info39 : (Tryd.prog.info? 39).map (fun i => (i.zero, i.size, i.bytes)) = some (some (.agg #[.string ⟨#[]⟩, .int .i64 0, .int .i64 0]), 3, 32) := by kernel_rfl
theorem info113 : (Tryd.prog.info? 113).map (fun i => (i.zero, i.size, i.bytes)) = some (some (.agg #[.int .i64 0, .int .i64 0]), 2, 16) := by kernel_rfl
theorem un22 : Tryd.prog.underlying 22 = some (.slice 39) := by kernel_rfl
theorem un23 : Tryd.prog.underlying 23 = some (.slice 71) := by kernel_rfl
theorem un24 : Tryd.prog.underlying 24 = some (.slice 113) := by kernel_rfl
/-- Rows of two types lie in two blocks. -/
theorem own_ne {w : World} {B B' : Nat} {e e' : TypeId} {s s' : Nat} {u v : Value} {n m : Nat} {xs ys : List Value} (he : e ≠ e') (h : w.ownsRow B e s u n xs) (k : w.ownsRow B' e' s' v m ys) : ∀ g, u.ownBlock = some g → v.ownBlock ≠ some g := by
  intro g hg hv
  rcases h.2 with ⟨h1, _⟩ | ⟨g1, cap, cur, h1, _, hc1, _⟩
  · rw [h1] at hg; simp [Value.ownBlock] at hg
  · rcases k.2 with ⟨k1, _⟩ | ⟨g2, cap2, cur2, k1, _, hc2, _⟩
    · rw [k1] at hv; simp [Value.ownBlock] at hv
    · rw [h1] at hg
      rw [k1] at hv
      simp [Value.ownBlock] at hg hv
      subst hg hv
      rw [hc1] at hc2
      injection hc2 with hc2
      injection hc2 with _ h3
      exact he h3
/-- A problem that can be copied. -/
structure MoFit (m : Md.Mo) : Prop where
  v : m.vars.length ≤ 300
  c : m.cons.length ≤ 300
  g : m.goal.length ≤ 300
  l : ∀ c ∈ m.cons, c.terms.length * 16 ≤ 140737488355328 ∧ c.xs.length * 8 ≤ 140737488355328 ∧ c.table.length * 8 ≤ 140737488355328
/-- What copied leaves. -/
def CdOut (m : Md.Mo) (w : World) (e : Ending) (w' : World) : Prop := ∃ vv vc vg, e = .returned (moVal m vv vc vg) ∧ MoAt w' m vv vc vg ∧ Below w.heap.size w w'
end Go.Proofs.YtakdboddbgihpaaDoor
