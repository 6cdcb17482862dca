/-
  The book: the one list of texts that waits is due: it is written full.
-/
import Derived.Test.YtpmiplhbppmboaaDoorBkWait
import Derived.Test.YtpmiplhbppmboaaDoorBkSame
namespace Go.Proofs.YtpmiplhbppmboaaDoor
open Go Go.RowKit Go.Lib

/-- The book, and what else may be changed: blocks of S. -/
structure AtS (S : Nat → Prop) (w : World) (P : Nat) (bad : Bool) (turn deep : Int) (t : Tx) (w' : World) : Prop where
  book : BkAt w' P bad turn deep t
  rest : Off S w w'
theorem AtS.below {S : Nat → Prop} {w : World} {P : Nat} {bad : Bool} {turn deep : Int} {t : Tx} {w' w2 : World} (h : AtS S w P bad turn deep t w') (hb : RowKit.Below w'.heap.size w' w2) : AtS S w P bad turn deep t w2 := ⟨h.book.below hb, h.rest.trans (Off.of_below hb)⟩
theorem AtS.set {S : Nat → Prop} {w : World} {P : Nat} {bad bad' : Bool} {turn deep : Int} {t t' : Tx} {w' : World} (h : AtS S w P bad turn deep t w') (hS : S P) (i : Nat) (v : Value) (e : (bookCs bad turn deep t).setIfInBounds i v = bookCs bad' turn deep t') : AtS S w P bad' turn deep t' (w'.setCell ⟨P, i, none⟩ v) := ⟨h.book.set i v e, h.rest.trans (Off.set _ hS)⟩
/-- A write into another block. -/
theorem AtS.put {S : Nat → Prop} {w : World} {P g : Nat} {bad : Bool} {turn deep : Int} {t : Tx} {w' : World} (h : AtS S w P bad turn deep t w') (hS : S g) (hg : g ≠ P) (i : Nat) (v : Value) : AtS S w P bad turn deep t (w'.setCell ⟨g, i, none⟩ v) :=
  ⟨(Below.heap_setCell _ ⟨g, i, none⟩ _ P (fun e => hg e.symm)).trans h.book, h.rest.trans (Off.set _ hS)⟩
/-- A cell of a row of one's own, written. -/
theorem own_write {w : World} {B e g c n : Nat} {xs : List Value} (h : w.ownsRow B e 1 (.slice (some ⟨g, 0, none⟩) n c) n xs) (i : Nat) (u : Value) : (w.setCell ⟨g, i, none⟩ u).ownsRow B e 1 (.slice (some ⟨g, 0, none⟩) n c) n (xs.set i u) := by
  obtain ⟨h1, h2⟩ := h
  refine ⟨by rw [List.length_set]; exact h1, ?_⟩
  rcases h2 with ⟨h2, _⟩ | ⟨g', cap, cur, hv, hb, hc, h3, h4, h5, h6⟩
  · cases h2
  · injection hv with e1 _ e3
    injection e1 with e1
    injection e1 with e1 _ _
    subst e1
    subst e3
    refine .inr ⟨g, c, cur.setIfInBounds i u, rfl, hb, ?_, h3, h4, by rw [Array.size_setIfInBounds]; exact h5, ?_⟩
    · simp [World.setCell, Array.getElem?_modify, hc]
    · rw [← h6, Array.toList_setIfInBounds, List.take_set]
theorem own_at {w : World} {B g c n i : Nat} {xs : List Value} {u : Value} (h : w.ownsRow B 9 1 (.slice (some ⟨g, 0, none⟩) n c) n xs) (hi : xs[i]? = some u) : w.cell? ⟨g, i, none⟩ = some u ∧ w.frozen? ⟨g, i, none⟩ = false := by
  obtain ⟨_, h2⟩ := id h
  rcases h2 with ⟨h2, _⟩ | ⟨g', cap, cur, hv, hb, hc, h3, h4, h5, h6⟩
  · cases h2
  · injection hv with e1 _ e3
    injection e1 with e1
    injection e1 with e1 _ _
    subst e1
    rcases own_cells h with ⟨h1, _⟩ | ⟨g', c', h1, _, _, _, hcell⟩
    · cases h1
    · injection h1 with e1 _ _
      injection e1 with e1
      injection e1 with e1 _ _
      subst e1
      exact ⟨hcell i u hi, by simp [World.frozen?, hc]⟩
theorem own_st {w : World} {B : Nat} {v : Value} {l : List ByteArray} (h : w.ownsRow B 9 1 v l.length (l.map .string)) : StAt w v l := by
  rcases h.2 with ⟨rfl, h1⟩ | ⟨g, cap, cur, rfl, hb, hc, h3, h4, h5, h6⟩
  · exact ⟨none, 0, by rw [h1], by omega, by unfold maxLen; omega, fun k hk => absurd hk (by omega)⟩
  · refine ⟨_, cap, rfl, h3, h4, fun k hk => ⟨g, 0, rfl, (Array.getElem?_eq_some_iff.1 hc).1, ?_⟩⟩
    rcases own_cells h with ⟨h1, _⟩ | ⟨g', c', h1, _, _, _, hcell⟩
    · cases h1
    · injection h1 with e1 _ _
      injection e1 with e1
      injection e1 with e1 _ _
      subst e1
      rw [Nat.zero_add]
      exact hcell k _ (by simp [hk])
end Go.Proofs.YtpmiplhbppmboaaDoor
