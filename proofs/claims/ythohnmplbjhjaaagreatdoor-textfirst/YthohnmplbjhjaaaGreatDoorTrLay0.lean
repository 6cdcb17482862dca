/-
  A line that is read: what it says is laid to the problem.
-/
import Derived.Test.YthohnmplbjhjaaaGreatDoorJ36
namespace Go.Proofs.YthohnmplbjhjaaaGreatDoor
open Go Go.RowKit Go.Shelf Go.Lib
attribute [local go_sem] Oper.semAt_some

def encV (v : Md.Vr) : List Value := [.string v.name, .int .i64 v.lo, .int .i64 v.hi]
/-- A constraint with its lists, as it lies. -/
structure CnL where
  c : Md.Cn
  t : Value
  x : Value
  b : Value
  r : Value
def CnL.cells (d : CnL) : List Value := [.int .i64 d.c.kind, .int .i64 d.c.op, d.t, .int .i64 d.c.k, .int .i64 d.c.v, .int .i64 d.c.x, .int .i64 d.c.y, d.x, d.b, d.r]
/-- A problem in the making: its box, its rows. -/
structure MoIs (B P : Nat) (m : Md.Mo) (vv vc vg : Value) (W : World) : Prop where
  o : W.heap[P]? = some (.cells #[vv, vc, .bool m.has, vg] 26 (0, 0))
  lo : B ≤ P
  v : W.ownsRow B 56 3 vv m.vars.length (encL encV m.vars)
  k : ∃ L : List CnL, m.cons = L.map (·.c) ∧ W.ownsRow B 61 10 vc m.cons.length (L.flatMap CnL.cells) ∧ ∀ d ∈ L, SyV B ⟨zv, d.c⟩ d.t d.x d.b d.r W
  g : W.ownsRow B 87 2 vg m.goal.length (encL encT m.goal)
def MoI (B P : Nat) (m : Md.Mo) (W : World) : Prop := ∃ vv vc vg, MoIs B P m vv vc vg W
theorem MoIs.off {B P : Nat} {m : Md.Mo} {vv vc vg : Value} {w w' : World} {S : Nat → Prop} (h : MoIs B P m vv vc vg w) (o : Ofw S w w') (hS : ∀ k, S k → k ≠ P ∧ ∀ c t, w.heap[k]? = some (.cells c t (0, 0)) → t ≠ 56 ∧ t ≠ 61 ∧ t ≠ 87 ∧ t ≠ 3 ∧ t ≠ 58) : MoIs B P m vv vc vg w' := by
  obtain ⟨L, hL, hk, hs⟩ := h.k
  refine ⟨(o.block P (Array.getElem?_eq_some_iff.1 h.o).1 (fun e => (hS P e).1 rfl)).trans h.o, h.lo, ?_, ⟨L, hL, ?_, fun d hd => ?_⟩, ?_⟩
  · exact own_ofw h.v (fun g hg e => by obtain ⟨_, cur, hc⟩ := own_type h.v hg; exact ((hS g e).2 cur 56 hc).1 rfl) o
  · exact own_ofw hk (fun g hg e => by obtain ⟨_, cur, hc⟩ := own_type hk hg; exact ((hS g e).2 cur 61 hc).2.1 rfl) o
  · exact (hs d hd).off o (fun k hk c t e => by obtain ⟨_, _, h3, h4, h5⟩ := (hS k hk).2 c t e; exact ⟨h3, h4, h5⟩)
  · exact own_ofw h.g (fun g hg e => by obtain ⟨_, cur, hc⟩ := own_type h.g hg; exact ((hS g e).2 cur 87 hc).2.2.1 rfl) o
theorem own_typed {w w' : World} {B : Nat} {e : TypeId} {size : Nat} {v : Value} {n : Nat} {xs : List Value} {S : Nat → Prop} (h : w.ownsRow B e size v n xs) (o : Ofw S w w') (hS : ∀ k, S k → ∀ c t, w.heap[k]? = some (.cells c t (0, 0)) → t ≠ e) : w'.ownsRow B e size v n xs :=
  own_ofw h (fun g hg eg => by obtain ⟨_, cur, hc⟩ := own_type h hg; exact hS g eg cur e hc rfl) o
theorem one_type {w : World} {k : Nat} {c c' : Array Value} {t t' : TypeId} (h : w.heap[k]? = some (.cells c t (0, 0))) (h' : w.heap[k]? = some (.cells c' t' (0, 0))) : t' = t := by
  rw [h] at h'
  injection h' with h'
  injection h' with _ h' _
  exact h'.symm
theorem own_eq {w : World} {B : Nat} {e : TypeId} {size : Nat} {v : Value} {n : Nat} {xs ys : List Value} (h : w.ownsRow B e size v n xs) (h' : w.ownsRow B e size v n ys) : xs = ys := by
  rcases h.2 with ⟨_, h0⟩ | ⟨g, cap, cur, hv, _, hc, _, _, _, ht⟩
  · subst h0
    have h1 := h.1
    have h2 := h'.1
    simp only [Nat.zero_mul, List.length_eq_zero_iff] at h1 h2
    rw [h1, h2]
  · rcases h'.2 with ⟨hv', _⟩ | ⟨g', cap', cur', hv', _, hc', _, _, _, ht'⟩
    · rw [hv] at hv'; cases hv'
    · rw [hv] at hv'
      injection hv' with hv' _ _
      injection hv' with hv'
      injection hv' with hv' _ _
      subst hv'
      rw [hc] at hc'
      injection hc' with hc'
      injection hc' with hc' _ _
      subst hc'
      rw [← ht, ← ht']
/-- One variable more. -/
theorem MoIs.more_v {B P : Nat} {m : Md.Mo} {vv vc vg v' : Value} {w w' : World} (h : MoIs B P m vv vc vg w) (y : Md.Vr) (hr : w'.ownsRow B 56 3 v' (m.vars.length + 1) (encL encV m.vars ++ encV y)) (ho : Ofw (fun k => vv.ownBlock = some k) w w') :
    MoIs B P { m with vars := m.vars ++ [y] } v' vc vg (w'.setCell ⟨P, 0, none⟩ v') ∧ Ofw (fun k => k = P ∨ vv.ownBlock = some k) w (w'.setCell ⟨P, 0, none⟩ v') := by
  have hP : w'.heap[P]? = some (.cells #[vv, vc, .bool m.has, vg] 26 (0, 0)) := (ho.block P (Array.getElem?_eq_some_iff.1 h.o).1 (fun e => by
    obtain ⟨_, cur, hc⟩ := own_type h.v e
    exact absurd (one_type h.o hc) (by decide))).trans h.o
  have os : Ofw (fun k => k = P) w' (w'.setCell ⟨P, 0, none⟩ v') := Ofw.set _ rfl
  have oo : Ofw (fun k => k = P ∨ vv.ownBlock = some k) w (w'.setCell ⟨P, 0, none⟩ v') := (ho.less fun k hk => .inr hk).trans (os.less fun k hk => .inl hk)
  have tt : ∀ k, (k = P ∨ vv.ownBlock = some k) → ∀ c t, w.heap[k]? = some (.cells c t (0, 0)) → t = 26 ∨ t = 56 := fun k hk c t e => by
    rcases hk with hk | hk
    · subst hk; exact .inl (one_type h.o e)
    · obtain ⟨_, cur, hc⟩ := own_type h.v hk
      exact .inr (one_type hc e)
  obtain ⟨L, hL, hk, hs⟩ := h.k
  refine ⟨⟨set_of hP 0 v', h.lo, ?_, ⟨L, hL, own_typed hk oo (fun k hk c t e => by rcases tt k hk c t e with rfl | rfl <;> decide), fun d hd => (hs d hd).off oo (fun k hk c t e => by rcases tt k hk c t e with rfl | rfl <;> decide)⟩, own_typed h.g oo (fun k hk c t e => by rcases tt k hk c t e with rfl | rfl <;> decide)⟩, oo⟩
  show World.ownsRow _ B 56 3 v' (m.vars ++ [y]).length (encL encV (m.vars ++ [y]))
  rw [encL_snoc, List.length_append]
  exact own_typed hr os (fun k hk c t e => by have hk' : k = P := hk; subst hk'; rw [one_type hP e]; decide)
/-- One constraint more. -/
theorem MoIs.more_c {B P : Nat} {m : Md.Mo} {vv vc vg v' : Value} {w w' : World} (h : MoIs B P m vv vc vg w) (d : CnL) (hd : SyV B ⟨zv, d.c⟩ d.t d.x d.b d.r w) (hr : ∀ xs, w.ownsRow B 61 10 vc m.cons.length xs → w'.ownsRow B 61 10 v' (m.cons.length + 1) (xs ++ d.cells)) (ho : Ofw (fun k => vc.ownBlock = some k) w w') :
    MoIs B P { m with cons := m.cons ++ [d.c] } vv v' vg (w'.setCell ⟨P, 1, none⟩ v') ∧ Ofw (fun k => k = P ∨ vc.ownBlock = some k) w (w'.setCell ⟨P, 1, none⟩ v') := by
  obtain ⟨L, hL, hk, hs⟩ := h.k
  have hP : w'.heap[P]? = some (.cells #[vv, vc, .bool m.has, vg] 26 (0, 0)) := (ho.block P (Array.getElem?_eq_some_iff.1 h.o).1 (fun e => by
    obtain ⟨_, cur, hc⟩ := own_type hk e
    exact absurd (one_type h.o hc) (by decide))).trans h.o
  have os : Ofw (fun k => k = P) w' (w'.setCell ⟨P, 1, none⟩ v') := Ofw.set _ rfl
  have oo : Ofw (fun k => k = P ∨ vc.ownBlock = some k) w (w'.setCell ⟨P, 1, none⟩ v') := (ho.less fun k hk => .inr hk).trans (os.less fun k hk => .inl hk)
  have tt : ∀ k, (k = P ∨ vc.ownBlock = some k) → ∀ c t, w.heap[k]? = some (.cells c t (0, 0)) → t = 26 ∨ t = 61 := fun k hk' c t e => by
    rcases hk' with hk' | hk'
    · subst hk'; exact .inl (one_type h.o e)
    · obtain ⟨_, cur, hc⟩ := own_type hk hk'
      exact .inr (one_type hc e)
  refine ⟨⟨set_of hP 1 v', h.lo, own_typed h.v oo (fun k hk c t e => by rcases tt k hk c t e with rfl | rfl <;> decide), ⟨L ++ [d], by simp [hL], ?_, fun d' hd' => ?_⟩, own_typed h.g oo (fun k hk c t e => by rcases tt k hk c t e with rfl | rfl <;> decide)⟩, oo⟩
  · show World.ownsRow _ B 61 10 v' (m.cons ++ [d.c]).length _
    rw [List.length_append, List.flatMap_append]
    have h1 := hr _ hk
    have h2 : ([d].flatMap CnL.cells) = d.cells := by simp
    rw [h2]
    exact own_typed h1 os (fun k hk c t e => by have hk' : k = P := hk; subst hk'; rw [one_type hP e]; decide)
  · rcases List.mem_append.1 hd' with hd' | hd'
    · exact (hs d' hd').off oo (fun k hk c t e => by rcases tt k hk c t e with rfl | rfl <;> decide)
    · rw [List.mem_singleton.1 hd']
      exact hd.off oo (fun k hk c t e => by rcases tt k hk c t e with rfl | rfl <;> decide)
/-- The goal. -/
theorem MoIs.goal {B P : Nat} {m : Md.Mo} {vv vc vg v' : Value} {w w' : World} {l : List (Int × Int)} (h : MoIs B P m vv vc vg w) (hr : w.ownsRow B 87 2 v' l.length (encL encT l)) (hw : w'.heap[P]? = some (.cells #[vv, vc, .bool true, v'] 26 (0, 0))) (ho : Ofw (fun k => k = P) w w') :
    MoIs B P { m with has := true, goal := l } vv vc v' w' := by
  obtain ⟨L, hL, hk, hs⟩ := h.k
  have tt : ∀ k, k = P → ∀ c t, w.heap[k]? = some (.cells c t (0, 0)) → t = 26 := fun k hk c t e => by
    subst hk; exact one_type h.o e
  exact ⟨hw, h.lo, own_typed h.v ho (fun k hk c t e => by rw [tt k hk c t e]; decide), ⟨L, hL, own_typed hk ho (fun k hk c t e => by rw [tt k hk c t e]; decide), fun d hd => (hs d hd).off ho (fun k hk c t e => by rw [tt k hk c t e]; decide)⟩, own_typed hr ho (fun k hk c t e => by rw [tt k hk c t e]; decide)⟩
end Go.Proofs.YthohnmplbjhjaaaGreatDoor
