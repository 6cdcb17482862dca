/-
  Put together: DmVals, DmPack.
-/
import Derived.Test.YtdfbmfikhccajaaDoorJ32
import Derived.Test.YtdfbmfikhccajaaDoorMdSrc
import Derived.Laws.MakeOwn
import Derived.Laws.OwnMore
namespace Go.Proofs.YtdfbmfikhccajaaDoor
open Go.RowKit

theorem own_below {w w' : World} {B : Nat} {e : TypeId} {size : Nat} {v : Value} {n : Nat} {xs : List Value} (h : w.ownsRow B e size v n xs) (hb : Below w.heap.size w w') : w'.ownsRow B e size v n xs := by
  obtain ⟨h1, h2⟩ := h
  refine ⟨h1, ?_⟩
  rcases h2 with h2 | ⟨g, cap, cur, e1, e2, e3, e4⟩
  · exact .inl h2
  · exact .inr ⟨g, cap, cur, e1, e2, (hb.block g (Array.getElem?_eq_some_iff.1 e3).1).trans e3, e4⟩

theorem own_less {w : World} {B C : Nat} {e : TypeId} {size : Nat} {v : Value} {n : Nat} {xs : List Value} (h : w.ownsRow B e size v n xs) (hb : C ≤ B) : w.ownsRow C e size v n xs := by
  obtain ⟨h1, h2⟩ := h
  refine ⟨h1, ?_⟩
  rcases h2 with h2 | ⟨g, cap, cur, e1, e2, e3⟩
  · exact .inl h2
  · exact .inr ⟨g, cap, cur, e1, Nat.le_trans hb e2, e3⟩
/-- The values up to the k-th place from the least. -/
def dVals (f a b : Int) (k : Nat) : List Int := ((List.range k).map (fun j : Nat => f + bLow a b + (j : Int))).filter (dHas f a b)
theorem dVals_succ (f a b : Int) (k : Nat) : dVals f a b (k + 1) = dVals f a b k ++ (if dHas f a b (f + bLow a b + (k : Int)) then [f + bLow a b + (k : Int)] else []) := by
  unfold dVals
  rw [List.range_succ, List.map_append, List.filter_append]
  simp only [List.map_cons, List.map_nil, List.filter_cons, List.filter_nil]
theorem dVals_len (f a b : Int) (k : Nat) : (dVals f a b k).length ≤ k := by
  have := List.length_filter_le (dHas f a b) ((List.range k).map (fun j : Nat => f + bLow a b + (j : Int)))
  simpa [dVals] using this
/-- How many places there are from the least to the greatest. -/
def dN (a b : Int) : Nat := (bHigh a b - bLow a b + 1).toNat
theorem dN_le (a b : Int) : dN a b ≤ 96 := by
  have := bLow_lo a b
  have := bHigh_lo a b
  unfold dN; omega
def dAll (f a b : Int) : List Int := dVals f a b (dN a b)

theorem und53 : Tryd.prog.underlying 22 = some (.slice 3) := by kernel_rfl
theorem make0 (c : Int) (h0 : 0 ≤ c) (h1 : c ≤ 1000) (w : World) : (Instr.makeSlice 22 (.int .i64 0) (.int .i64 c)).run Tryd.prog w = .ok (.slice (some ⟨w.heap.size, 0, none⟩) 0 c.toNat) (w.alloc (.cells (madeCells #[.int .i64 0] c.toNat) 3)) := by
  obtain ⟨i, hi, hz, hs, hbb⟩ := info_of info3
  have hr := run_make (P := Tryd.prog) w 22 3 i (.int .i64 0) und53 hi hz .i64 .i64 0 c (Int.le_refl _) h0 (by rw [hbb]; omega) (by omega)
  rw [hs, Nat.mul_one] at hr
  exact hr

/-- What values leaves: a new row. -/
def VsOut (L : List Int) (w : World) (e : Ending) (w' : World) : Prop := ∃ v, e = .returned v ∧ w'.ownsRow w.heap.size 3 1 v L.length (L.map (.int .i64)) ∧ Below w.heap.size w w'

end Go.Proofs.YtdfbmfikhccajaaDoor

namespace Go.Proofs.YtdfbmfikhccajaaDoor
open Go.RowKit

/-- A row of ints, as it is read. -/
theorem row_form {w : World} {B : Nat} {v : Value} {L : List Int} (h : w.ownsRow B 3 1 v L.length (L.map (.int .i64))) : ∃ a cap, v = .slice a L.length cap ∧ ∀ j (hj : j < L.length), ∃ g, a = some ⟨g, 0, none⟩ ∧ B ≤ g ∧ g < w.heap.size ∧ w.cell? ⟨g, j, none⟩ = some (.int .i64 L[j]) := by
  obtain ⟨_, h2⟩ := h
  rcases h2 with ⟨rfl, h0⟩ | ⟨g, cap, cur, rfl, e2, e3, e4, e5, e6, e7⟩
  · exact ⟨none, 0, by rw [h0], fun j hj => absurd hj (by omega)⟩
  · refine ⟨_, cap, rfl, fun j hj => ⟨g, rfl, e2, (Array.getElem?_eq_some_iff.1 e3).1, ?_⟩⟩
    rw [cell_of e3]
    have : (cur.toList.take (L.length * 1))[j]? = (L.map (Value.int .i64))[j]? := by rw [e7]
    rw [List.getElem?_take, if_pos (by omega)] at this
    simpa [List.getElem?_eq_getElem hj] using this

/-- A loop that writes one set: but its block all is as it was. -/
structure Pk (w W1 : World) (R : Nat) (p q : Int) (w' : World) : Prop where
  below : Below w.heap.size w w'
  off : Off (fun k => k = R) W1 w'
  le : w.heap.size ≤ R
  lt : R < w'.heap.size
  blk : w'.heap[R]? = some (.cells #[.int .u32 p, .int .u32 q] 59 (0, 0))
theorem Pk.next {w W w1 w2 : World} {R : Nat} {p q : Int} (h : Pk w W R p q w1) (hb : Below w1.heap.size w1 w2) : Pk w W R p q w2 :=
  ⟨h.below.trans (hb.mono h.below.size), h.off.trans (Off.of_below hb), h.le, Nat.lt_of_lt_of_le h.lt hb.size, (hb.block _ h.lt).trans h.blk⟩
theorem Pk.set {w W w1 : World} {R : Nat} {p q : Int} (h : Pk w W R p q w1) (x y : Int) : Pk w W R x y ((w1.setCell ⟨R, 0, none⟩ (.int .u32 x)).setCell ⟨R, 1, none⟩ (.int .u32 y)) :=
  ⟨(h.below.setCell h.le _).setCell h.le _, (h.off.trans (Off.set _ rfl)).trans (Off.set _ rfl), h.le, by simpa using h.lt, set2 h.blk _ _⟩

def pkStep (l : Int) (p : Int × Int) (v : Int) : Int × Int := (bits .or .u32 p.1 (oWd (v - l) 0), bits .or .u32 p.2 (oWd (v - l) 1))
def pkL (l : Int) (L : List Int) : Int × Int := L.foldl (pkStep l) (0, 0)
theorem pkL_succ (l : Int) (L : List Int) (k : Nat) (hk : k < L.length) : pkL l (L.take (k + 1)) = pkStep l (pkL l (L.take k)) L[k] := by
  unfold pkL
  rw [List.take_succ_eq_append_getElem hk, List.foldl_append]
  rfl
def dPack (f a b : Int) : Int × Int := pkL (f + bLow a b) (dAll f a b)
theorem dAll_mem {f a b v : Int} (h : v ∈ dAll f a b) : 0 ≤ v - (f + bLow a b) ∧ v - (f + bLow a b) ≤ 96 ∧ v ≤ f + 200 ∧ f ≤ v := by
  have hn := dN_le a b
  have hl := bLow_lo a b
  unfold dAll dVals at h
  rw [List.mem_filter, List.mem_map] at h
  obtain ⟨⟨j, hj, rfl⟩, _⟩ := h
  rw [List.mem_range] at hj
  omega

end Go.Proofs.YtdfbmfikhccajaaDoor
