/-
  The chapter's examples, first part.
-/
import Derived.Test.YtmhfabnpfkkbcaaMdV9
import Derived.Test.YtmhfabnpfkkbcaaMdV7
import Derived.Test.YtmhfabnpfkkbcaaMdV8
import Derived.Test.YtmhfabnpfkkbcaaMdFewM
namespace Go.Proofs.Ytmhfabnpfkkbcaa
open Go.RowKit

def kLin : Md.Cn := ⟨1, 1, [(2, 0), (-1, 1)], 4, 0, 0, 0, [], [], []⟩
def kNe : Md.Cn := ⟨2, 0, [], 1, 0, 0, 1, [], [], []⟩
def kEl : Md.Cn := ⟨4, 0, [], 0, 0, 0, 1, [], [2, 0], []⟩
def kRf : Md.Cn := ⟨7, 0, [(1, 0), (1, 1)], 1, 0, 0, 0, [], [], []⟩
def kRows : Md.Cn := ⟨8, 0, [], 0, 0, 0, 0, [0, 1], [], [[0, 1], [3, -1]]⟩
def kTimes : Md.Cn := ⟨9, 2, [], 2, 2, 0, 0, [0, 1, 1], [], []⟩

theorem ints0 (w : World) : IntsAt w (.slice none 0 0) [] := ⟨none, 0, rfl, Nat.zero_le _, fun h => absurd h (Nat.not_lt_zero _)⟩
theorem terms0 (w : World) : TermsAt w (.slice none 0 0) [] := ⟨none, 0, rfl, Nat.zero_le _, fun h => absurd h (Nat.not_lt_zero _)⟩
theorem rows0 (w : World) : RowsAt w (.slice none 0 0) [] := ⟨none, 0, rfl, Nat.zero_le _, fun h => absurd h (Nat.not_lt_zero _)⟩
theorem cons0 (w : World) : ConsAt w (.slice none 0 0) [] := ⟨none, 0, rfl, Nat.zero_le _, fun h => absurd h (Nat.not_lt_zero _)⟩
theorem ints2 {w : World} {N : Nat} {a b : Int} {t : TypeId} (h : w.heap[N]? = some (.cells #[.int .i64 a, .int .i64 b] t (0, 0))) : IntsAt w (.slice (some ⟨N, 0, none⟩) 2 2) [a, b] := by
  refine ⟨_, 2, rfl, by simp [maxLen], fun _ => ⟨N, 0, rfl, (Array.getElem?_eq_some_iff.1 h).1, fun j hj => ?_⟩⟩
  have hj : j < 2 := hj
  match j, hj with
  | 0, _ => simp [World.cell?, h]
  | 1, _ => simp [World.cell?, h]
theorem ints3 {w : World} {N : Nat} {a b c : Int} {t : TypeId} (h : w.heap[N]? = some (.cells #[.int .i64 a, .int .i64 b, .int .i64 c] t (0, 0))) : IntsAt w (.slice (some ⟨N, 0, none⟩) 3 3) [a, b, c] := by
  refine ⟨_, 3, rfl, by simp [maxLen], fun _ => ⟨N, 0, rfl, (Array.getElem?_eq_some_iff.1 h).1, fun j hj => ?_⟩⟩
  have hj : j < 3 := hj
  match j, hj with
  | 0, _ => simp [World.cell?, h]
  | 1, _ => simp [World.cell?, h]
  | 2, _ => simp [World.cell?, h]
theorem terms2 {w : World} {N : Nat} {a b c d : Int} {t : TypeId} (h : w.heap[N]? = some (.cells #[.int .i64 a, .int .i64 b, .int .i64 c, .int .i64 d] t (0, 0))) : TermsAt w (.slice (some ⟨N, 0, none⟩) 2 2) [(a, b), (c, d)] := by
  refine ⟨_, 2, rfl, by simp [maxLen], fun _ => ⟨N, 0, rfl, (Array.getElem?_eq_some_iff.1 h).1, fun j hj => ?_⟩⟩
  have hj : j < 2 := hj
  match j, hj with
  | 0, _ => simp [World.cell?, h]
  | 1, _ => simp [World.cell?, h]
theorem rows2 {w : World} {N : Nat} {u v : Value} {a b : List Int} {t : TypeId} (h : w.heap[N]? = some (.cells #[u, v] t (0, 0))) (ha : IntsAt w u a) (hb : IntsAt w v b) : RowsAt w (.slice (some ⟨N, 0, none⟩) 2 2) [a, b] := by
  refine ⟨_, 2, rfl, by simp [maxLen], fun _ => ⟨N, 0, rfl, (Array.getElem?_eq_some_iff.1 h).1, fun j hj => ?_⟩⟩
  have hj : j < 2 := hj
  match j, hj with
  | 0, _ => exact ⟨u, by simp [World.cell?, h], ha⟩
  | 1, _ => exact ⟨v, by simp [World.cell?, h], hb⟩
theorem heap_back {w : World} {o : Obj} {i : Nat} {x : Obj} (h : w.heap[i]? = some x) : (w.alloc o).heap[i]? = some x := (((Below.refl _ w).alloc (Nat.le_refl _) o).block i (Array.getElem?_eq_some_iff.1 h).1).trans h
theorem heap_top {w : World} {o : Obj} {i : Nat} (h : i = w.heap.size) : (w.alloc o).heap[i]? = some o := by subst h; exact heap_alloc_new w o
theorem holds_at {c : Md.Cn} {vt vx vb vr V : Value} {W w' : World} (a b : Int) (r : Bool) (hr : Md.holds c [a, b] = r) (hC : CnAt W c vt vx vb vr) (hV : cnVal c vt vx vb vr = V) (hb : Below W.heap.size W w') :
    Calls Try.prog 13 #[V, .slice (some ⟨w'.heap.size, 0, none⟩) 2 2] (w'.alloc (.cells #[.int .i64 a, .int .i64 b] 3)) fun e w'' => e = .returned (.bool r) ∧ Below W.heap.size W w'' := by
  subst hV
  have h1 : Below w'.heap.size w' (w'.alloc (.cells #[.int .i64 a, .int .i64 b] 3)) := (Below.refl _ _).alloc (Nat.le_refl _) _
  refine (Holds_any c vt vx vb vr _ [a, b] _ ((hC.below hb).below h1) (ints2 (heap_alloc_new w' _))).mono ?_
  rintro e w2 ⟨rfl, h2⟩
  refine ⟨by rw [hr], ?_⟩
  have h3 := hb.trans (h1.mono hb.size)
  exact h3.trans (h2.mono h3.size)


theorem known_lay {w W : World} (hW : ((((((w.alloc (.cells #[.int .i64 2, .int .i64 0, .int .i64 (-1), .int .i64 1] 35)).alloc (.cells #[.int .i64 1, .int .i64 1, .slice (some ⟨w.heap.size, 0, none⟩) 2 2, .int .i64 4, .int .i64 0, .int .i64 0, .int .i64 0, .slice none 0 0, .slice none 0 0, .slice none 0 0] 40)).alloc (.cells #[.int .i64 2, .int .i64 0, .slice none 0 0, .int .i64 1, .int .i64 0, .int .i64 0, .int .i64 1, .slice none 0 0, .slice none 0 0, .slice none 0 0] 40)).alloc (.cells #[.int .i64 2, .int .i64 0] 3)).alloc (.cells #[.int .i64 4, .int .i64 0, .slice none 0 0, .int .i64 0, .int .i64 0, .int .i64 0, .int .i64 1, .slice none 0 0, .slice (some ⟨w.heap.size + 1 + 1 + 1, 0, none⟩) 2 2, .slice none 0 0] 40)).alloc (.cells #[.int .i64 1, .int .i64 0, .int .i64 1, .int .i64 1] 35)).alloc (.cells #[.int .i64 7, .int .i64 0, .slice (some ⟨w.heap.size + 1 + 1 + 1 + 1 + 1, 0, none⟩) 2 2, .int .i64 1, .int .i64 0, .int .i64 0, .int .i64 0, .slice none 0 0, .slice none 0 0, .slice none 0 0] 40) = W) : Below w.heap.size w W ∧ (W.heap[w.heap.size + 1]? = some (.cells #[.int .i64 1, .int .i64 1, .slice (some ⟨w.heap.size, 0, none⟩) 2 2, .int .i64 4, .int .i64 0, .int .i64 0, .int .i64 0, .slice none 0 0, .slice none 0 0, .slice none 0 0] 40) ∧ W.heap[w.heap.size + 1 + 1]? = some (.cells #[.int .i64 2, .int .i64 0, .slice none 0 0, .int .i64 1, .int .i64 0, .int .i64 0, .int .i64 1, .slice none 0 0, .slice none 0 0, .slice none 0 0] 40) ∧ W.heap[w.heap.size + 1 + 1 + 1 + 1]? = some (.cells #[.int .i64 4, .int .i64 0, .slice none 0 0, .int .i64 0, .int .i64 0, .int .i64 0, .int .i64 1, .slice none 0 0, .slice (some ⟨w.heap.size + 1 + 1 + 1, 0, none⟩) 2 2, .slice none 0 0] 40) ∧ W.heap[w.heap.size + 1 + 1 + 1 + 1 + 1 + 1]? = some (.cells #[.int .i64 7, .int .i64 0, .slice (some ⟨w.heap.size + 1 + 1 + 1 + 1 + 1, 0, none⟩) 2 2, .int .i64 1, .int .i64 0, .int .i64 0, .int .i64 0, .slice none 0 0, .slice none 0 0, .slice none 0 0] 40)) ∧ (CnAt W kLin (.slice (some ⟨w.heap.size, 0, none⟩) 2 2) (.slice none 0 0) (.slice none 0 0) (.slice none 0 0) ∧ CnAt W kNe (.slice none 0 0) (.slice none 0 0) (.slice none 0 0) (.slice none 0 0) ∧ CnAt W kEl (.slice none 0 0) (.slice none 0 0) (.slice (some ⟨w.heap.size + 1 + 1 + 1, 0, none⟩) 2 2) (.slice none 0 0) ∧ CnAt W kRf (.slice (some ⟨w.heap.size + 1 + 1 + 1 + 1 + 1, 0, none⟩) 2 2) (.slice none 0 0) (.slice none 0 0) (.slice none 0 0)) := by
  subst hW
  refine ⟨?_, ⟨?_, ?_, ?_, ?_⟩, ?_⟩
  · refine Below.alloc (Below.alloc (Below.alloc (Below.alloc (Below.alloc (Below.alloc (Below.alloc (Below.refl _ _) ?_ _) ?_ _) ?_ _) ?_ _) ?_ _) ?_ _) ?_ _ <;> simp <;> omega
  · repeat first | (exact heap_top (by simp)) | (refine heap_back ?_)
  · repeat first | (exact heap_top (by simp)) | (refine heap_back ?_)
  · repeat first | (exact heap_top (by simp)) | (refine heap_back ?_)
  · repeat first | (exact heap_top (by simp)) | (refine heap_back ?_)
  · refine ⟨⟨terms2 (t := 35) ?_, ints0 _, ?_, ints0 _, rows0 _⟩, ⟨terms0 _, ints0 _, ?_, ints0 _, rows0 _⟩, ⟨terms0 _, ints0 _, ?_, ints2 (t := 3) ?_, rows0 _⟩, ⟨terms2 (t := 35) ?_, ints0 _, ?_, ints0 _, rows0 _⟩⟩
    all_goals first
      | (intro a n cp h; cases h; exact Nat.le_refl _)
      | (repeat first | (exact heap_top (by simp)) | (refine heap_back ?_))
theorem kh0 : Md.holds kLin [2, 0] = true := by kernel_rfl
theorem kh1 : Md.holds kLin [3, 2] = true := by kernel_rfl
theorem kh2 : Md.holds kNe [0, 1] = true := by kernel_rfl
theorem kh3 : Md.holds kEl [1, 0] = true := by kernel_rfl
theorem kh4 : Md.holds kRf [1, 0] = true := by kernel_rfl
theorem kh5 : Md.holds kLin [3, 1] = false := by kernel_rfl
theorem kh6 : Md.holds kNe [1, 0] = false := by kernel_rfl
theorem kh7 : Md.holds kEl [2, 2] = false := by kernel_rfl
theorem kh8 : Md.holds kRf [0, 1] = false := by kernel_rfl
theorem kh9 : Md.holds kRf [2, 2] = false := by kernel_rfl
theorem kh10 : Md.holds kRows [3, -1] = true := by kernel_rfl
theorem kh11 : Md.holds kRows [0, -1] = false := by kernel_rfl
theorem kh12 : Md.holds kTimes [0, 2] = true := by kernel_rfl
theorem kh13 : Md.holds kTimes [2, 2] = false := by kernel_rfl
end Go.Proofs.Ytmhfabnpfkkbcaa
