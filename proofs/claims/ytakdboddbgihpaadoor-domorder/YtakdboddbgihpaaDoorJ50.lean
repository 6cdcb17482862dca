/-
  Put together: DmOrdP, DmOrdQ.
-/
import Derived.Test.YtakdboddbgihpaaDoorJ45
namespace Go.Proofs.YtakdboddbgihpaaDoor
open Go.RowKit

/-- Two stores, each in blocks of its own. -/
structure Pr (Ba Bb p q : Nat) (nv mv nw mw : Value) (s t : St) (w : World) : Prop where
  a : StAt Ba w p nv mv s
  b : StAt Bb w q nw mw t
  apart : ∀ k, Own p nv mv k → ¬ Own q nw mw k
theorem Pr.stepA {Ba Bb p q : Nat} {nv mv nw mw : Value} {s s' t : St} {w w' : World} (h : Pr Ba Bb p q nv mv nw mw s t w) (h1 : StAt Ba w' p nv mv s') (h2 : Stp Ba p nv mv w w') : Pr Ba Bb p q nv mv nw mw s' t w' :=
  ⟨h1, h.b.keep (fun k hk ho => h2.off.block k hk (fun e => h.apart k e ho)), h.apart⟩
theorem Pr.stepB {Ba Bb p q : Nat} {nv mv nw mw : Value} {s t t' : St} {w w' : World} (h : Pr Ba Bb p q nv mv nw mw s t w) (h1 : StAt Bb w' q nw mw t') (h2 : Stp Bb q nw mw w w') : Pr Ba Bb p q nv mv nw mw s t' w' :=
  ⟨h.a.keep (fun k hk ho => h2.off.block k hk (fun e => h.apart k ho e)), h1, h.apart⟩
theorem Pr.below {Ba Bb p q : Nat} {nv mv nw mw : Value} {s t : St} {w w' : World} (h : Pr Ba Bb p q nv mv nw mw s t w) (hb : Below w.heap.size w w') : Pr Ba Bb p q nv mv nw mw s t w' := ⟨h.a.below hb, h.b.below hb, h.apart⟩
/-- A store made later lies apart. -/
theorem Pr.of {Ba p q : Nat} {nv mv nw mw : Value} {s t : St} {w w' : World} (h : StAt Ba w p nv mv s) (hb : Below w.heap.size w w') (h2 : StAt w.heap.size w' q nw mw t) : Pr Ba w.heap.size p q nv mv nw mw s t w' := by
  refine ⟨h.below hb, h2, fun k h1 e => ?_⟩
  have k1 : k < w.heap.size := by
    rcases h1 with h1 | h1 | h1
    · rw [h1]; exact h.lt
    · exact (row_lt h.n h1).2
    · exact (row_lt h.m h1).2
  have k2 : w.heap.size ≤ k := by
    rcases e with e | e | e
    · rw [e]; exact h2.p1
    · exact (row_lt h2.n e).1
    · exact (row_lt h2.m e).1
  omega
theorem new_good (m : Md.Mo) : ∀ d ∈ (newS m).now, d.Ok := by
  unfold newS
  split
  · rename_i h
    intro d hd
    obtain ⟨v, hv, rfl⟩ := List.mem_map.1 hd
    exact wholeD_ok ((Md.right_of h).var v hv).2
  · intro d hd
    cases hd
/-- P11.6: a value is there just where no cut takes it. -/
theorem has_goes {m : Md.Mo} (hR : (Md.check m).2 = 0) {l : List Ct} {t : St} (h : (newS m).cuts l = some t) (y : Nat) (hy : y < m.vars.length) (hy2 : y < t.now.length) (v : Int) (h1 : m.vars[y].lo ≤ v) (h2 : v ≤ m.vars[y].hi) :
    dHas t.now[y].f t.now[y].a t.now[y].b v = !(l.any fun c => decide (c.x = (y : Int)) && takesB c.k c.v v) := by
  have hb := Md.bounds_of ((Md.right_of hR).var m.vars[y] (List.getElem_mem hy)).2
  obtain ⟨g1, _, _, _, g5⟩ := cuts_bits (new_good m) h
  have hN : newS m = ⟨m.vars.map wholeD, [], 0⟩ := by unfold newS; rw [if_pos hR]
  have hy3 : y < (newS m).now.length := by rw [hN]; simpa using hy
  have hd : (newS m).now[y] = wholeD m.vars[y] := by
    have e : (newS m).now = m.vars.map wholeD := by rw [hN]
    simp only [e, List.getElem_map]
  obtain ⟨e1, e2⟩ := g5 y hy3 hy2
  rw [hd] at e1 e2
  have o := g1 t.now[y] (List.getElem_mem hy2)
  obtain ⟨k, hk⟩ : ∃ k : Nat, v = m.vars[y].lo + (k : Int) := ⟨(v - m.vars[y].lo).toNat, by omega⟩
  have hk64 : k < 64 := by omega
  have hp : dPlc t.now[y].f v = (k : Int) := by
    rw [e1]
    show dPlc m.vars[y].lo v = _
    unfold dPlc
    omega
  unfold dHas
  rw [hp, btAt_bt o.a o.b k hk64, e2 k hk64]
  show (bt (wWd m.vars[y].lo m.vars[y].hi 0) (wWd m.vars[y].lo m.vars[y].hi 1) k && _) = _
  rw [bt_whole _ _ k hk64]
  have : (k : Int) ≤ m.vars[y].hi - m.vars[y].lo := by omega
  simp only [this, decide_true, Bool.true_and]
  show (l.all fun c => !(decide (c.x = (y : Int)) && takesB c.k c.v (m.vars[y].lo + (k : Int)))) = _
  rw [← hk, List.all_eq_not_any_not]
  simp
end Go.Proofs.YtakdboddbgihpaaDoor

namespace Go.Proofs.YtakdboddbgihpaaDoor
open Go.RowKit

def Ct.cells (c : Ct) : List Value := [.int .i64 c.k, .int .i64 c.x, .int .i64 c.v]
def cts (L : List Ct) : List Value := L.flatMap Ct.cells
theorem cts_len (L : List Ct) : (cts L).length = L.length * 3 := by
  induction L with
  | nil => rfl
  | cons d L ih => simp only [cts, List.flatMap_cons, List.length_append, List.length_cons] at ih ⊢; rw [ih]; simp [Ct.cells]; omega
theorem cts_snoc (L : List Ct) (c : Ct) : cts (L ++ [c]) = cts L ++ [.int .i64 c.k, .int .i64 c.x, .int .i64 c.v] := by
  simp [cts, Ct.cells]
theorem cts_get (L : List Ct) (j : Nat) (hj : j < L.length) : (cts L)[j * 3]? = some (.int .i64 L[j].k) ∧ (cts L)[j * 3 + 1]? = some (.int .i64 L[j].x) ∧ (cts L)[j * 3 + 2]? = some (.int .i64 L[j].v) := by
  induction L generalizing j with
  | nil => exact absurd hj (by simp)
  | cons d L ih =>
    cases j with
    | zero => exact ⟨rfl, rfl, rfl⟩
    | succ j =>
      have h := ih j (by simpa using hj)
      have e : cts (d :: L) = d.cells ++ cts L := by simp [cts]
      have key : ∀ i, (cts (d :: L))[(j + 1) * 3 + i]? = (cts L)[j * 3 + i]? := fun i => by
        rw [e, List.getElem?_append_right (by simp [Ct.cells]; omega)]
        simp only [Ct.cells, List.length_cons, List.length_nil]
        congr 1
        omega
      refine ⟨?_, ?_, ?_⟩
      · have := key 0
        simp only [Nat.add_zero] at this
        rw [this]; exact h.1
      · rw [key 1]; exact h.2.1
      · rw [key 2]; exact h.2.2
theorem own_cts {w : World} {B n : Nat} {a : Option Addr} {m cap : Nat} {L : List Ct} (h : w.ownsRow B 34 3 (.slice a m cap) n (cts L)) : CtsAt w a L := by
  rcases own_cells h with ⟨hv, hn⟩ | ⟨g, cap, hv, _, hg, _, hc⟩
  · intro j hj
    have := h.1
    rw [cts_len] at this
    omega
  · injection hv with e1 _ _
    intro j hj
    obtain ⟨f0, f1, f2⟩ := cts_get L j hj
    exact ⟨g, 0, e1, by rw [Nat.zero_add]; exact hc _ _ f0, by rw [Nat.zero_add]; exact hc _ _ f1, by rw [Nat.zero_add]; exact hc _ _ f2⟩
theorem own_lt {B : Nat} {w : World} {p : Nat} {nv mv : Value} {s : St} (h : StAt B w p nv mv s) {k : Nat} (hk : Own p nv mv k) : k < w.heap.size := by
  rcases hk with h1 | h1 | h1
  · rw [h1]; exact h.lt
  · exact (row_lt h.n h1).2
  · exact (row_lt h.m h1).2
theorem new_right {m : Md.Mo} (h : 0 < (newS m).now.length) : (Md.check m).2 = 0 := by
  unfold newS at h
  split at h
  · assumption
  · exact absurd h (Nat.lt_irrefl _)
theorem new_len {m : Md.Mo} (h : (Md.check m).2 = 0) : (newS m).now.length = m.vars.length := by
  unfold newS
  rw [if_pos h]
  simp
/-- The place at which the other list begins. -/
theorem turn_at (turn : Int) (n : Nat) (h0 : 0 < n) (h1 : n ≤ 300) : ∃ kk : Nat, (wrap64 (turn.tmod (n : Int) + (n : Int))).tmod (n : Int) = (kk : Int) ∧ kk < n := by
  have hn : (0 : Int) < (n : Int) := by omega
  have a1 : turn.tmod (n : Int) < (n : Int) := Int.tmod_lt_of_pos _ hn
  have a2 : -(n : Int) < turn.tmod (n : Int) := Int.lt_tmod_of_pos _ hn
  have hw : wrap64 (turn.tmod (n : Int) + (n : Int)) = turn.tmod (n : Int) + (n : Int) := by
    unfold wrap64; omega
  rw [hw]
  have b0 : 0 ≤ turn.tmod (n : Int) + (n : Int) := by omega
  have b1 := Int.tmod_nonneg (n : Int) b0
  have b2 := Int.tmod_lt_of_pos (turn.tmod (n : Int) + (n : Int)) hn
  exact ⟨((turn.tmod (n : Int) + (n : Int)).tmod (n : Int)).toNat, by omega, by omega⟩
theorem other_at (i kk n : Nat) (h0 : 0 < n) : (n : Int) - 1 - ((i : Int) + (kk : Int)) % (n : Int) = ((n - 1 - (i + kk) % n : Nat) : Int) := by
  have e : ((i : Int) + (kk : Int)) % (n : Int) = (((i + kk) % n : Nat) : Int) := by
    rw [Int.natCast_emod, Int.natCast_add]
  rw [e]
  have := Nat.mod_lt (i + kk) h0
  omega
/-- What the law gathers: does a cut of the first ones take the value? -/
def goesB (L : List Ct) (y : Nat) (v : Int) : Bool := L.any fun c => decide (c.x = (y : Int)) && takesB c.k c.v v
theorem goes_next (L : List Ct) (k : Nat) (hk : k < L.length) (y : Nat) (v : Int) : goesB (L.take (k + 1)) y v = (goesB (L.take k) y v || (decide (L[k].x = (y : Int)) && takesB L[k].k L[k].v v)) := by
  unfold goesB
  rw [List.take_succ_eq_append_getElem hk, List.any_append]
  simp
end Go.Proofs.YtakdboddbgihpaaDoor
