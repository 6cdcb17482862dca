/-
  Lists of texts, and lists of lists, in memory.
-/
import Derived.Test.YtpmiplhbppmboaaDoorBkFrame
namespace Go.Proofs.YtpmiplhbppmboaaDoor
open Go Go.RowKit Go.Lib

/-- A list of texts in memory. -/
def StAt (w : World) (v : Value) (l : List ByteArray) : Prop := ∃ a c, v = .slice a l.length c ∧ l.length ≤ c ∧ c ≤ maxLen ∧ ∀ k (h : k < l.length), ∃ b off, a = some ⟨b, off, none⟩ ∧ b < w.heap.size ∧ w.cell? ⟨b, off + k, none⟩ = some (.string l[k])
/-- A list of lists in memory. -/
def VsAt (w : World) (v : Value) (l : List Value) : Prop := ∃ a c, v = .slice a l.length c ∧ l.length ≤ c ∧ c ≤ maxLen ∧ ∀ k (h : k < l.length), ∃ b off, a = some ⟨b, off, none⟩ ∧ b < w.heap.size ∧ w.cell? ⟨b, off + k, none⟩ = some l[k]

theorem StAt.below {w w' : World} {v : Value} {l : List ByteArray} (h : StAt w v l) (hb : RowKit.Below w.heap.size w w') : StAt w' v l := by
  obtain ⟨a, c, hv, h1, h2, h3⟩ := h
  exact ⟨a, c, hv, h1, h2, fun k hk => by
    obtain ⟨b, off, ha, hlt, c0⟩ := h3 k hk
    exact ⟨b, off, ha, Nat.lt_of_lt_of_le hlt hb.size, (hb.cell (p := ⟨b, off + k, none⟩) hlt).trans c0⟩⟩
theorem VsAt.below {w w' : World} {v : Value} {l : List Value} (h : VsAt w v l) (hb : RowKit.Below w.heap.size w w') : VsAt w' v l := by
  obtain ⟨a, c, hv, h1, h2, h3⟩ := h
  exact ⟨a, c, hv, h1, h2, fun k hk => by
    obtain ⟨b, off, ha, hlt, c0⟩ := h3 k hk
    exact ⟨b, off, ha, Nat.lt_of_lt_of_le hlt hb.size, (hb.cell (p := ⟨b, off + k, none⟩) hlt).trans c0⟩⟩
theorem BkAt.below {w w' : World} {P : Nat} {bad : Bool} {turn deep : Int} {t : Tx} (h : BkAt w P bad turn deep t) (hb : RowKit.Below w.heap.size w w') : BkAt w' P bad turn deep t := (hb.block _ (Array.getElem?_eq_some_iff.1 h).1).trans h
end Go.Proofs.YtpmiplhbppmboaaDoor
