/-
  For DomOrder: two stores side by side; a value is there just where no cut takes it.
-/
import Derived.Test.YtlcegpnnanhloaaGreatDoorJ31
namespace Go.Proofs.YtlcegpnnanhloaaGreatDoor
open Go.RowKit

/-- Two stores, each in blocks of its own. -/
structure Pr (Ba Bb p q : Nat) (nv mv nw mw : Value) (s t : St) (w : World) : Prop where
  a : StAt Ba w p nv mv s
  b : StAt Bb w q nw mw t
  apart : ∀ k, Own p nv mv k → ¬ Own q nw mw k
theorem Pr.stepA {Ba Bb p q : Nat} {nv mv nw mw : Value} {s s' t : St} {w w' : World} (h : Pr Ba Bb p q nv mv nw mw s t w) (h1 : StAt Ba w' p nv mv s') (h2 : Stp Ba p nv mv w w') : Pr Ba Bb p q nv mv nw mw s' t w' :=
  ⟨h1, h.b.keep (fun k hk ho => h2.off.block k hk (fun e => h.apart k e ho)), h.apart⟩
theorem Pr.stepB {Ba Bb p q : Nat} {nv mv nw mw : Value} {s t t' : St} {w w' : World} (h : Pr Ba Bb p q nv mv nw mw s t w) (h1 : StAt Bb w' q nw mw t') (h2 : Stp Bb q nw mw w w') : Pr Ba Bb p q nv mv nw mw s t' w' :=
  ⟨h.a.keep (fun k hk ho => h2.off.block k hk (fun e => h.apart k ho e)), h1, h.apart⟩
theorem Pr.below {Ba Bb p q : Nat} {nv mv nw mw : Value} {s t : St} {w w' : World} (h : Pr Ba Bb p q nv mv nw mw s t w) (hb : Below w.heap.size w w') : Pr Ba Bb p q nv mv nw mw s t w' := ⟨h.a.below hb, h.b.below hb, h.apart⟩
/-- A store made later lies apart. -/
theorem Pr.of {Ba p q : Nat} {nv mv nw mw : Value} {s t : St} {w w' : World} (h : StAt Ba w p nv mv s) (hb : Below w.heap.size w w') (h2 : StAt w.heap.size w' q nw mw t) : Pr Ba w.heap.size p q nv mv nw mw s t w' := by
  refine ⟨h.below hb, h2, fun k h1 e => ?_⟩
  have k1 : k < w.heap.size := by
    rcases h1 with h1 | h1 | h1
    · rw [h1]; exact h.lt
    · exact (row_lt h.n h1).2
    · exact (row_lt h.m h1).2
  have k2 : w.heap.size ≤ k := by
    rcases e with e | e | e
    · rw [e]; exact h2.p1
    · exact (row_lt h2.n e).1
    · exact (row_lt h2.m e).1
  omega
theorem new_good (m : Md.Mo) : ∀ d ∈ (newS m).now, d.Ok := by
  unfold newS
  split
  · rename_i h
    intro d hd
    obtain ⟨v, hv, rfl⟩ := List.mem_map.1 hd
    exact wholeD_ok ((Md.right_of h).var v hv).2
  · intro d hd
    cases hd
/-- P11.6: a value is there just where no cut takes it. -/
theorem has_goes {m : Md.Mo} (hR : (Md.check m).2 = 0) {l : List Ct} {t : St} (h : (newS m).cuts l = some t) (y : Nat) (hy : y < m.vars.length) (hy2 : y < t.now.length) (v : Int) (h1 : m.vars[y].lo ≤ v) (h2 : v ≤ m.vars[y].hi) :
    dHas t.now[y].f t.now[y].a t.now[y].b v = !(l.any fun c => decide (c.x = (y : Int)) && takesB c.k c.v v) := by
  have hb := Md.bounds_of ((Md.right_of hR).var m.vars[y] (List.getElem_mem hy)).2
  obtain ⟨g1, _, _, _, g5⟩ := cuts_bits (new_good m) h
  have hN : newS m = ⟨m.vars.map wholeD, [], 0⟩ := by unfold newS; rw [if_pos hR]
  have hy3 : y < (newS m).now.length := by rw [hN]; simpa using hy
  have hd : (newS m).now[y] = wholeD m.vars[y] := by
    have e : (newS m).now = m.vars.map wholeD := by rw [hN]
    simp only [e, List.getElem_map]
  obtain ⟨e1, e2⟩ := g5 y hy3 hy2
  rw [hd] at e1 e2
  have o := g1 t.now[y] (List.getElem_mem hy2)
  obtain ⟨k, hk⟩ : ∃ k : Nat, v = m.vars[y].lo + (k : Int) := ⟨(v - m.vars[y].lo).toNat, by omega⟩
  have hk64 : k < 64 := by omega
  have hp : dPlc t.now[y].f v = (k : Int) := by
    rw [e1]
    show dPlc m.vars[y].lo v = _
    unfold dPlc
    omega
  unfold dHas
  rw [hp, btAt_bt o.a o.b k hk64, e2 k hk64]
  show (bt (wWd m.vars[y].lo m.vars[y].hi 0) (wWd m.vars[y].lo m.vars[y].hi 1) k && _) = _
  rw [bt_whole _ _ k hk64]
  have : (k : Int) ≤ m.vars[y].hi - m.vars[y].lo := by omega
  simp only [this, decide_true, Bool.true_and]
  show (l.all fun c => !(decide (c.x = (y : Int)) && takesB c.k c.v (m.vars[y].lo + (k : Int)))) = _
  rw [← hk, List.all_eq_not_any_not]
  simp
end Go.Proofs.YtlcegpnnanhloaaGreatDoor
