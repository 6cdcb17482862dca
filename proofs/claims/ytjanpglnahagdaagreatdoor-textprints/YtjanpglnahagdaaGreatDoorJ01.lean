/-
  Put together: MdMath, MdSmall, MdRef, MdAt.
-/
import Derived.Test.YtjanpglnahagdaaGreatDoorProg
import Derived.WalkKit
import Derived.WalkSpells
import Derived.WalkLawsBesides
import Derived.BigQuiet
import Derived.Deep.QuietTactic
namespace Md

/-- A constraint. -/
structure Cn where
  kind : Int
  op : Int
  terms : List (Int × Int)
  k : Int
  v : Int
  x : Int
  y : Int
  xs : List Int
  table : List Int
  rows : List (List Int)

def numB (n : Int) : Bool := decide (-1000000000 ≤ n ∧ n ≤ 1000000000)
def plB (n x : Int) : Bool := decide (0 ≤ x ∧ x < n)
def cfB (c : Int) : Bool := decide (c ≠ 0 ∧ -1000000 ≤ c ∧ c ≤ 1000000)
def fewB (n most : Nat) : Bool := decide (n < 1 ∨ most < n)

def fOp (k : Int) : Bool := k == 1 || k == 9
def fTerms (k : Int) : Bool := k == 1 || k == 7
def fK (k : Int) : Bool := k == 1 || k == 2 || k == 7 || k == 9
def fV (k : Int) : Bool := k == 9
def fX (k : Int) : Bool := k == 2 || k == 4 || k == 7
def fY (k : Int) : Bool := k == 2 || k == 4 || k == 5 || k == 6
def fXs (k : Int) : Bool := k == 3 || k == 5 || k == 6 || k == 8 || k == 9
def fTable (k : Int) : Bool := k == 4
def fRows (k : Int) : Bool := k == 8

def kindBad (kind op : Int) : Bool := decide (kind < 1 ∨ 9 < kind) || (fOp kind && decide (op < 1 ∨ 3 < op))
/-- A plain field that the kind hasn't is set. -/
def plainBad (c : Cn) : Bool :=
  (!fOp c.kind && c.op != 0) || (!fK c.kind && c.k != 0) || (!fV c.kind && c.v != 0) || (!fX c.kind && c.x != 0) || (!fY c.kind && c.y != 0)
def listBad (c : Cn) : Bool :=
  (!fTerms c.kind && decide (0 < c.terms.length)) || (!fXs c.kind && decide (0 < c.xs.length)) || (!fTable c.kind && decide (0 < c.table.length)) || (!fRows c.kind && decide (0 < c.rows.length))
def mostXs (k : Int) : Nat := if k = 8 then 8 else 64
def manyBad (c : Cn) : Bool :=
  (fTerms c.kind && fewB c.terms.length 64) || (fXs c.kind && fewB c.xs.length (mostXs c.kind)) || (fTable c.kind && fewB c.table.length 64) || (fRows c.kind && fewB c.rows.length 64) || !(c.rows.all fun r => r.length == c.xs.length)
def placesB (c : Cn) (n : Int) : Bool := plB n c.x && plB n c.y && c.terms.all (fun t => plB n t.2) && c.xs.all (plB n)
def coefsB (t : List (Int × Int)) : Bool := t.all fun t => cfB t.1
def numsB (c : Cn) : Bool := numB c.k && numB c.v && c.table.all numB && c.rows.all (fun r => r.all numB)

/-- The first fault of a constraint over n variables. -/
def fault (c : Cn) (n : Int) : Int :=
  if kindBad c.kind c.op then 43 else if plainBad c || listBad c then 48 else if manyBad c then 47 else if !placesB c n then 44 else if !coefsB c.terms then 45 else if !numsB c then 46 else 0

def val (vs : List Int) (x : Int) : Int := vs.getD x.toNat 0
def sum (t : List (Int × Int)) (vs : List Int) : Int := t.foldl (fun n t => n + t.1 * val vs t.2) 0
def cmpB (op a b : Int) : Bool := if op = 1 then decide (a ≤ b) else if op = 2 then decide (a = b) else decide (b ≤ a)
def diffB (l : List Int) : Bool := decide (l.Pairwise (· ≠ ·))
def linB (c : Cn) (vs : List Int) : Bool := cmpB c.op (sum c.terms vs) c.k
def neB (c : Cn) (vs : List Int) : Bool := decide (val vs c.x ≠ val vs c.y + c.k)
def adB (c : Cn) (vs : List Int) : Bool := diffB (c.xs.map (val vs))
def elB (c : Cn) (vs : List Int) : Bool := decide (0 ≤ val vs c.x ∧ val vs c.x < c.table.length ∧ val vs c.y = c.table.getD (val vs c.x).toNat 0)
def mxB (c : Cn) (vs : List Int) : Bool := c.xs.all (fun x => decide (val vs x ≤ val vs c.y)) && c.xs.any (fun x => decide (val vs x = val vs c.y))
def mnB (c : Cn) (vs : List Int) : Bool := c.xs.all (fun x => decide (val vs c.y ≤ val vs x)) && c.xs.any (fun x => decide (val vs x = val vs c.y))
def rfB (c : Cn) (vs : List Int) : Bool := if sum c.terms vs ≤ c.k then decide (val vs c.x = 1) else decide (val vs c.x = 0)
def tbB (c : Cn) (vs : List Int) : Bool := c.rows.any fun r => decide (c.xs.map (val vs) = r)
def ctB (c : Cn) (vs : List Int) : Bool := cmpB c.op ((c.xs.countP fun x => decide (val vs x = c.v) : Nat) : Int) c.k
/-- What a constraint that may stand says of values. -/
def hold (c : Cn) (vs : List Int) : Bool :=
  if c.kind = 1 then linB c vs else if c.kind = 2 then neB c vs else if c.kind = 3 then adB c vs else if c.kind = 4 then elB c vs else if c.kind = 5 then mxB c vs else if c.kind = 6 then mnB c vs
  else if c.kind = 7 then rfB c vs else if c.kind = 8 then tbB c vs else ctB c vs
/-- Holds. -/
def holds (c : Cn) (vs : List Int) : Bool := decide (fault c vs.length = 0) && vs.all numB && hold c vs

/-- What a constraint that may stand has. -/
structure Fit (c : Cn) (n : Nat) : Prop where
  kind : 1 ≤ c.kind ∧ c.kind ≤ 9
  op : fOp c.kind = true → 1 ≤ c.op ∧ c.op ≤ 3
  x : 0 ≤ c.x ∧ c.x < n
  y : 0 ≤ c.y ∧ c.y < n
  tx : ∀ t ∈ c.terms, 0 ≤ t.2 ∧ t.2 < n
  xs : ∀ x ∈ c.xs, 0 ≤ x ∧ x < n
  tc : ∀ t ∈ c.terms, -1000000 ≤ t.1 ∧ t.1 ≤ 1000000
  tl : c.terms.length ≤ 64
  xl : c.xs.length ≤ 64
  xp : fXs c.kind = true → 0 < c.xs.length
  bl : c.table.length ≤ 64
  rl : c.rows.length ≤ 64
  rr : ∀ r ∈ c.rows, r.length = c.xs.length
  k : -1000000000 ≤ c.k ∧ c.k ≤ 1000000000
  v : -1000000000 ≤ c.v ∧ c.v ≤ 1000000000

theorem fit_of {c : Cn} {n : Nat} (h : fault c n = 0) : Fit c n := by
  unfold fault at h
  split at h
  · cases h
  rename_i h1
  split at h
  · cases h
  rename_i h2
  split at h
  · cases h
  rename_i h3
  split at h
  · cases h
  rename_i h4
  split at h
  · cases h
  rename_i h5
  split at h
  · cases h
  rename_i h6
  clear h
  simp only [kindBad, Bool.or_eq_true, Bool.and_eq_true, decide_eq_true_eq, not_or, not_and] at h1
  simp only [listBad, plainBad, Bool.or_eq_true, Bool.and_eq_true, Bool.not_eq_true', decide_eq_true_eq, not_or, not_and] at h2
  simp only [manyBad, Bool.or_eq_true, Bool.and_eq_true, fewB, decide_eq_true_eq, not_or, not_and, Bool.not_eq_true', Bool.not_eq_false, List.all_eq_true, beq_iff_eq] at h3
  simp only [placesB, plB, Bool.and_eq_true, decide_eq_true_eq, List.all_eq_true, Bool.not_eq_true', Bool.not_eq_false] at h4
  simp only [coefsB, cfB, decide_eq_true_eq, List.all_eq_true, Bool.not_eq_true', Bool.not_eq_false] at h5
  simp only [numsB, numB, Bool.and_eq_true, decide_eq_true_eq, List.all_eq_true, Bool.not_eq_true', Bool.not_eq_false] at h6
  obtain ⟨⟨⟨m1, m2⟩, m3⟩, m4⟩ := h3.1
  obtain ⟨⟨⟨l1, l2⟩, l3⟩, l4⟩ := h2.2
  refine ⟨by omega, fun ho => by have := h1.2 ho; omega, h4.1.1.1, h4.1.1.2, h4.1.2, h4.2, fun t ht => (h5 t ht).2, ?_, ?_, ?_, ?_, ?_, h3.2, h6.1.1.1, h6.1.1.2⟩
  · cases hf : fTerms c.kind
    · have := l1 hf; omega
    · have := m1 hf; omega
  · cases hf : fXs c.kind
    · have := l2 hf; omega
    · have h := m2 hf
      unfold mostXs at h
      split at h <;> omega
  · intro hf
    have := m2 hf; omega
  · cases hf : fTable c.kind
    · have := l3 hf; omega
    · have := m3 hf; omega
  · cases hf : fRows c.kind
    · have := l4 hf; omega
    · have := m4 hf; omega
theorem all_next {α : Type} {p : α → Bool} {l : List α} {k : Nat} (h : (l.take k).all p = true) (hk : k < l.length) (hp : p l[k] = true) : (l.take (k + 1)).all p = true := by
  rw [List.take_succ_eq_append_getElem hk, List.all_append, h]; simp [hp]
theorem all_stop {α : Type} {p : α → Bool} {l : List α} {k : Nat} (hk : k < l.length) (hp : p l[k] = false) : l.all p = false := by
  rw [List.all_eq_false]; exact ⟨l[k], List.getElem_mem hk, by simp [hp]⟩
theorem all_done {α : Type} {p : α → Bool} {l : List α} {k : Nat} (h : (l.take k).all p = true) (hk : l.length ≤ k) : l.all p = true := by
  rwa [List.take_of_length_le hk] at h
theorem any_next {α : Type} {p : α → Bool} {l : List α} {k : Nat} (hk : k < l.length) : (l.take (k + 1)).any p = ((l.take k).any p || p l[k]) := by
  rw [List.take_succ_eq_append_getElem hk, List.any_append]; simp
theorem any_stop {α : Type} {p : α → Bool} {l : List α} {k : Nat} (hk : k < l.length) (hp : p l[k] = true) : l.any p = true := by
  rw [List.any_eq_true]; exact ⟨l[k], List.getElem_mem hk, hp⟩
theorem any_done {α : Type} {p : α → Bool} {l : List α} {k : Nat} {b : Bool} (h : (l.take k).any p = b) (hk : l.length ≤ k) : l.any p = b := by
  rwa [List.take_of_length_le hk] at h
theorem countP_next {α : Type} {p : α → Bool} {l : List α} {k : Nat} (hk : k < l.length) : (l.take (k + 1)).countP p = (l.take k).countP p + if p l[k] = true then 1 else 0 := by
  rw [List.take_succ_eq_append_getElem hk, List.countP_append]; simp [List.countP_cons]
theorem countP_le_take {α : Type} (p : α → Bool) (l : List α) (k : Nat) : (l.take k).countP p ≤ k := Nat.le_trans List.countP_le_length (List.length_take_le _ _)

theorem val_mem {vs : List Int} (h : vs.all numB = true) (x : Int) : -1000000000 ≤ val vs x ∧ val vs x ≤ 1000000000 := by
  unfold val
  by_cases hx : x.toNat < vs.length
  · rw [List.getD_eq_getElem?_getD, List.getElem?_eq_getElem hx]
    have := List.all_eq_true.1 h _ (List.getElem_mem hx)
    simpa [numB] using this
  · rw [List.getD_eq_getElem?_getD, List.getElem?_eq_none (by omega)]
    simp
theorem val_get {vs : List Int} {m : Nat} (h : m < vs.length) : val vs (m : Int) = vs[m] := by
  unfold val
  rw [List.getD_eq_getElem?_getD, Int.toNat_natCast, List.getElem?_eq_getElem h]; rfl
theorem sum_next {t : List (Int × Int)} {vs : List Int} {k : Nat} (hk : k < t.length) : sum (t.take (k + 1)) vs = sum (t.take k) vs + t[k].1 * val vs t[k].2 := by
  rw [List.take_succ_eq_append_getElem hk]
  unfold sum
  rw [List.foldl_append]; rfl
theorem mul_bd {c v : Int} (h1 : -1000000 ≤ c) (h2 : c ≤ 1000000) (h3 : -1000000000 ≤ v) (h4 : v ≤ 1000000000) : -1000000000000000 ≤ c * v ∧ c * v ≤ 1000000000000000 := by
  have e : (c * v).natAbs ≤ 1000000 * 1000000000 := by
    rw [Int.natAbs_mul]; exact Nat.mul_le_mul (by omega) (by omega)
  omega
theorem sum_bd {t : List (Int × Int)} {vs : List Int} (hv : vs.all numB = true) (ht : ∀ x ∈ t, -1000000 ≤ x.1 ∧ x.1 ≤ 1000000) (k : Nat) (hk : k ≤ t.length) : -(1000000000000000 * (k : Int)) ≤ sum (t.take k) vs ∧ sum (t.take k) vs ≤ 1000000000000000 * (k : Int) := by
  induction k with
  | zero => simp [sum]
  | succ k ih =>
    have hlt : k < t.length := by omega
    have hm := mul_bd (ht _ (List.getElem_mem hlt)).1 (ht _ (List.getElem_mem hlt)).2 (val_mem hv t[k].2).1 (val_mem hv t[k].2).2
    have := ih (by omega)
    rw [sum_next hlt]
    omega
theorem diff_stop {l : List Int} {i j : Nat} (hi : i < l.length) (hj : j < i) (h : l[j] = l[i]) : diffB l = false := by
  unfold diffB
  rw [decide_eq_false_iff_not, List.pairwise_iff_getElem]
  exact fun hp => hp j i (by omega) hi hj h
theorem diff_done {l : List Int} (h : ∀ i (hi : i < l.length), ∀ j (hj : j < i), l[j] ≠ l[i]) : diffB l = true := by
  unfold diffB
  rw [decide_eq_true_eq, List.pairwise_iff_getElem]
  exact fun j i _ hi hj => h i hi j hj
theorem mx_is {c : Cn} {vs : List Int} {g : Int} (h1 : ∀ x ∈ c.xs, val vs x ≤ g) (h2 : ∃ x ∈ c.xs, val vs x = g) : mxB c vs = decide (val vs c.y = g) := by
  unfold mxB
  rw [Bool.eq_iff_iff, Bool.and_eq_true, List.all_eq_true, List.any_eq_true]
  simp only [decide_eq_true_eq]
  obtain ⟨x0, hx0, e0⟩ := h2
  constructor
  · rintro ⟨ha, x, hx, hy⟩
    have := ha x0 hx0
    have := h1 x hx
    omega
  · intro h
    exact ⟨fun x hx => by have := h1 x hx; omega, x0, hx0, by omega⟩
theorem mn_is {c : Cn} {vs : List Int} {g : Int} (h1 : ∀ x ∈ c.xs, g ≤ val vs x) (h2 : ∃ x ∈ c.xs, val vs x = g) : mnB c vs = decide (val vs c.y = g) := by
  unfold mnB
  rw [Bool.eq_iff_iff, Bool.and_eq_true, List.all_eq_true, List.any_eq_true]
  simp only [decide_eq_true_eq]
  obtain ⟨x0, hx0, e0⟩ := h2
  constructor
  · rintro ⟨ha, x, hx, hy⟩
    have := ha x0 hx0
    have := h1 x hx
    omega
  · intro h
    exact ⟨fun x hx => by have := h1 x hx; omega, x0, hx0, by omega⟩
end Md

namespace Go.Proofs.YtjanpglnahagdaaGreatDoor
open Go.RowKit

theorem bcell {W w1 : World} (hb : Below W.heap.size W w1) : (∀ b o, b < W.heap.size → w1.cell? ⟨b, o, none⟩ = W.cell? ⟨b, o, none⟩) ∧ (∀ b o, b < W.heap.size → w1.frozen? ⟨b, o, none⟩ = W.frozen? ⟨b, o, none⟩) :=
  ⟨fun b o h => hb.cell (p := ⟨b, o, none⟩) h, fun b o h => hb.frozen (p := ⟨b, o, none⟩) h⟩
theorem ret_int {k : IntKind} {a b : Int} (h : a = b) : Ending.returned (.int k a) = .returned (.int k b) := by rw [h]
theorem ret_bool {a b : Bool} (h : a = b) : Ending.returned (.bool a) = .returned (.bool b) := by rw [h]
theorem calls_at {P : Program} {f : FuncId} {args args' : Array Value} {w w' : World} {Q Q' : Ending → World → Prop} (h : Calls P f args w Q) (e : args' = args) (ew : w' = w) (hm : ∀ e w', Q e w' → Q' e w') : Calls P f args' w' Q' := by
  subst e ew
  exact h.mono hm

set_option maxHeartbeats 400000 in
theorem isNumber_any (n : Int) (w : World) : Calls Tryz.prog 74 #[.int .i64 n] w fun e w' => e = .returned (.bool (Md.numB n)) ∧ w' = w := by
  by_cases h1 : -1000000000 ≤ n
  · by_cases h2 : n ≤ 1000000000
    · have hd : Md.numB n = true := decide_eq_true ⟨h1, h2⟩
      rw [hd]; clear hd
      go_enter Tryz.func74, Tryz.ntmps74
      go_wp2
      go_ret
      exact ⟨rfl, rfl⟩
    · have hd : Md.numB n = false := decide_eq_false (fun h => h2 h.2)
      rw [hd]; clear hd
      go_enter Tryz.func74, Tryz.ntmps74
      go_wp2
      go_ret
      exact ⟨rfl, rfl⟩
  · have hd : Md.numB n = false := decide_eq_false (fun h => h1 h.1)
    rw [hd]; clear hd
    go_enter Tryz.func74, Tryz.ntmps74
    go_wp2
    go_ret
    exact ⟨rfl, rfl⟩

set_option maxHeartbeats 400000 in
theorem isPlace_any (x n : Int) (w : World) : Calls Tryz.prog 128 #[.int .i64 x, .int .i64 n] w fun e w' => e = .returned (.bool (Md.plB n x)) ∧ w' = w := by
  by_cases h1 : 0 ≤ x
  · by_cases h2 : x < n
    · have hd : Md.plB n x = true := decide_eq_true ⟨h1, h2⟩
      rw [hd]; clear hd
      go_enter Tryz.func128, Tryz.ntmps128
      go_wp2
      go_ret
      exact ⟨rfl, rfl⟩
    · have hd : Md.plB n x = false := decide_eq_false (fun h => h2 h.2)
      rw [hd]; clear hd
      go_enter Tryz.func128, Tryz.ntmps128
      go_wp2
      go_ret
      exact ⟨rfl, rfl⟩
  · have hd : Md.plB n x = false := decide_eq_false (fun h => h1 h.1)
    rw [hd]; clear hd
    go_enter Tryz.func128, Tryz.ntmps128
    go_wp2
    go_ret
    exact ⟨rfl, rfl⟩

set_option maxHeartbeats 400000 in
theorem isMany_any (x m : Nat) (w : World) : Calls Tryz.prog 83 #[.int .i64 (x : Int), .int .i64 (m : Int)] w fun e w' => e = .returned (.bool (!Md.fewB x m)) ∧ w' = w := by
  by_cases h1 : (1 : Int) ≤ (x : Int)
  · by_cases h2 : (x : Int) ≤ (m : Int)
    · have hd : Md.fewB x m = false := decide_eq_false (fun h => by omega)
      rw [hd]; clear hd
      go_enter Tryz.func83, Tryz.ntmps83
      go_wp2
      go_ret
      exact ⟨rfl, rfl⟩
    · have hd : Md.fewB x m = true := decide_eq_true (by omega)
      rw [hd]; clear hd
      go_enter Tryz.func83, Tryz.ntmps83
      go_wp2
      go_ret
      exact ⟨rfl, rfl⟩
  · have hd : Md.fewB x m = true := decide_eq_true (by omega)
    rw [hd]; clear hd
    go_enter Tryz.func83, Tryz.ntmps83
    go_wp2
    go_ret
    exact ⟨rfl, rfl⟩

set_option maxHeartbeats 400000 in
theorem compare_any (a op b : Int) (w : World) (ho : 1 ≤ op ∧ op ≤ 3) : Calls Tryz.prog 173 #[.int .i64 a, .int .i64 op, .int .i64 b] w fun e w' => e = .returned (.bool (Md.cmpB op a b)) ∧ w' = w := by
  rcases (show op = 1 ∨ op = 2 ∨ op = 3 by omega) with rfl | rfl | rfl
  · by_cases h : a ≤ b
    · have hd : Md.cmpB 1 a b = true := decide_eq_true h
      rw [hd]; clear hd
      go_enter Tryz.func173, Tryz.ntmps173
      go_wp2
      go_ret
      exact ⟨rfl, rfl⟩
    · have hd : Md.cmpB 1 a b = false := decide_eq_false h
      rw [hd]; clear hd
      go_enter Tryz.func173, Tryz.ntmps173
      go_wp2
      go_ret
      exact ⟨rfl, rfl⟩
  · by_cases h : a = b
    · have hd : Md.cmpB 2 a b = true := decide_eq_true h
      rw [hd]; clear hd
      go_enter Tryz.func173, Tryz.ntmps173
      go_wp2
      go_ret
      exact ⟨ret_bool (by simp), rfl⟩
    · have hd : Md.cmpB 2 a b = false := decide_eq_false h
      rw [hd]; clear hd
      go_enter Tryz.func173, Tryz.ntmps173
      go_wp2
      go_ret
      exact ⟨ret_bool (by simp [h]), rfl⟩
  · by_cases h : b ≤ a
    · have hd : Md.cmpB 3 a b = true := decide_eq_true h
      rw [hd]; clear hd
      go_enter Tryz.func173, Tryz.ntmps173
      go_wp2
      go_ret
      exact ⟨rfl, rfl⟩
    · have hd : Md.cmpB 3 a b = false := decide_eq_false h
      rw [hd]; clear hd
      go_enter Tryz.func173, Tryz.ntmps173
      go_wp2
      go_ret
      exact ⟨rfl, rfl⟩
end Go.Proofs.YtjanpglnahagdaaGreatDoor

namespace Go.Proofs.YtjanpglnahagdaaGreatDoor
open Go.RowKit
set_option maxHeartbeats 400000 in
theorem place_any (x n : Int) (w : World) : Calls Tryz.prog 121 #[.int .i64 x, .int .i64 n] w fun e w' => e = .returned (.bool (Md.plB n x)) ∧ w' = w := by
  go_enter Tryz.func121, Tryz.ntmps121
  go_wp2
  all_goals (go_ret; refine ⟨ret_bool ?_, rfl⟩; unfold Md.plB; symm; simp; try omega)
set_option maxHeartbeats 400000 in
theorem lists_any (k : Int) (w : World) : Calls Tryz.prog 66 #[.int .i64 k] w fun e w' => e = .returned (.bool (Md.fXs k)) ∧ w' = w := by
  go_enter Tryz.func66, Tryz.ntmps66
  go_wp2
  all_goals (go_ret; refine ⟨ret_bool ?_, rfl⟩; simp [Md.fXs, *])
set_option maxHeartbeats 400000 in
theorem size_num (n : Int) (w : World) : Calls Tryz.prog 120 #[.int .i64 n, .int .i64 1000000000] w fun e w' => e = .returned (.bool (Md.numB n)) ∧ w' = w := by
  go_enter Tryz.func120, Tryz.ntmps120
  go_wp2
  all_goals (go_ret; refine ⟨ret_bool ?_, rfl⟩; unfold Md.numB; symm; simp; try omega)
set_option maxHeartbeats 400000 in
theorem size_coef (n : Int) (w : World) : Calls Tryz.prog 120 #[.int .i64 n, .int .i64 1000000] w fun e w' => e = .returned (.bool (decide (-1000000 ≤ n ∧ n ≤ 1000000))) ∧ w' = w := by
  go_enter Tryz.func120, Tryz.ntmps120
  go_wp2
  all_goals (go_ret; refine ⟨ret_bool ?_, rfl⟩; symm; simp; try omega)
set_option maxHeartbeats 400000 in
theorem number_any (n : Int) (w : World) : Calls Tryz.prog 69 #[.int .i64 n] w fun e w' => e = .returned (.bool (Md.numB n)) ∧ w' = w := by
  go_enter Tryz.func69, Tryz.ntmps69
  go_wp2_with (go_at_call 120; refine (size_num _ _).mono ?_; rintro e w' ⟨rfl, rfl⟩)
  go_ret
  exact ⟨rfl, rfl⟩
set_option maxHeartbeats 400000 in
theorem coef_any (n : Int) (w : World) : Calls Tryz.prog 70 #[.int .i64 n] w fun e w' => e = .returned (.bool (Md.cfB n)) ∧ w' = w := by
  by_cases h : n = 0
  · subst h
    go_enter Tryz.func70, Tryz.ntmps70
    go_wp2
    go_ret
    exact ⟨rfl, rfl⟩
  · have hb : (n != 0) = true := by simp [h]
    have hd : Md.cfB n = decide (-1000000 ≤ n ∧ n ≤ 1000000) := by unfold Md.cfB; simp [h]
    rw [hd]; clear hd
    go_enter Tryz.func70, Tryz.ntmps70
    go_wp2_with (go_at_call 120; refine (size_coef _ _).mono ?_; rintro e w' ⟨rfl, rfl⟩)
    all_goals (go_ret; exact ⟨ret_bool (by simp), rfl⟩)
set_option maxHeartbeats 400000 in
theorem many_any (n : Nat) (w : World) : Calls Tryz.prog 48 #[.int .i64 (n : Int)] w fun e w' => e = .returned (.bool (Md.fewB n 64)) ∧ w' = w := by
  go_enter Tryz.func48, Tryz.ntmps48
  go_wp2
  all_goals (go_ret; refine ⟨ret_bool ?_, rfl⟩; unfold Md.fewB; rw [Bool.eq_iff_iff]; simp; try omega)
/-- The mark of a place. -/
def lotI (k : Nat) : Int := if k % 2 = 0 then -7701 else -7702
set_option maxHeartbeats 400000 in
theorem lot_any (k : Nat) (w : World) : Calls Tryz.prog 60 #[.int .i64 (k : Int)] w fun e w' => e = .returned (.int .i64 (lotI k)) ∧ w' = w := by
  by_cases h : k % 2 = 0
  · have hd : lotI k = -7701 := if_pos h
    have h2 : (k : Int) % 2 = 0 := by omega
    rw [hd]; clear hd
    go_enter Tryz.func60, Tryz.ntmps60
    go_wp2
    go_ret
    exact ⟨rfl, rfl⟩
  · have hd : lotI k = -7702 := if_neg h
    have h2 : ((k : Int) % 2 == 0) = false := by simp; omega
    rw [hd]; clear hd
    go_enter Tryz.func60, Tryz.ntmps60
    go_wp2
    go_ret
    exact ⟨rfl, rfl⟩
end Go.Proofs.YtjanpglnahagdaaGreatDoor

namespace Go.Proofs.YtjanpglnahagdaaGreatDoor
open Go.RowKit

/-- A slice of ints. -/
def IntsAt (w : World) (v : Value) (l : List Int) : Prop :=
  ∃ a cap, v = .slice a l.length cap ∧ l.length ≤ maxLen ∧ (0 < l.length → ∃ b off, a = some ⟨b, off, none⟩ ∧ b < w.heap.size ∧ ∀ j (h : j < l.length), w.cell? ⟨b, off + j, none⟩ = some (.int .i64 l[j]))
/-- A slice of terms. -/
def TermsAt (w : World) (v : Value) (l : List (Int × Int)) : Prop :=
  ∃ a cap, v = .slice a l.length cap ∧ l.length ≤ maxLen ∧ (0 < l.length → ∃ b off, a = some ⟨b, off, none⟩ ∧ b < w.heap.size ∧
    ∀ j (h : j < l.length), w.cell? ⟨b, off + j * 2, none⟩ = some (.int .i64 l[j].1) ∧ w.cell? ⟨b, off + j * 2 + 1, none⟩ = some (.int .i64 l[j].2))
/-- A slice of slices of ints. -/
def RowsAt (w : World) (v : Value) (l : List (List Int)) : Prop :=
  ∃ a cap, v = .slice a l.length cap ∧ l.length ≤ maxLen ∧ (0 < l.length → ∃ b off, a = some ⟨b, off, none⟩ ∧ b < w.heap.size ∧
    ∀ j (h : j < l.length), ∃ u, w.cell? ⟨b, off + j, none⟩ = some u ∧ IntsAt w u l[j])
/-- A constraint's value. -/
def cnVal (c : Md.Cn) (vt vx vb vr : Value) : Value :=
  .agg #[.int .i64 c.kind, .int .i64 c.op, vt, .int .i64 c.k, .int .i64 c.v, .int .i64 c.x, .int .i64 c.y, vx, vb, vr]
/-- Its lists. -/
structure CnAt (w : World) (c : Md.Cn) (vt vx vb vr : Value) : Prop where
  t : TermsAt w vt c.terms
  x : IntsAt w vx c.xs
  xcap : ∀ a n cp, vx = .slice a n cp → n ≤ cp
  b : IntsAt w vb c.table
  r : RowsAt w vr c.rows

theorem IntsAt.mono {w w' : World} {v : Value} {l : List Int} (h : IntsAt w v l) (hs : w.heap.size ≤ w'.heap.size) (hb : ∀ b o, b < w.heap.size → w'.cell? ⟨b, o, none⟩ = w.cell? ⟨b, o, none⟩) : IntsAt w' v l := by
  obtain ⟨a, cap, hv, hl, hc⟩ := h
  refine ⟨a, cap, hv, hl, fun h0 => ?_⟩
  obtain ⟨b, off, ha, hbs, hcell⟩ := hc h0
  exact ⟨b, off, ha, Nat.lt_of_lt_of_le hbs hs, fun j hj => (hb _ _ hbs).trans (hcell j hj)⟩
theorem IntsAt.below {w w' : World} {v : Value} {l : List Int} (h : IntsAt w v l) (hb : Below w.heap.size w w') : IntsAt w' v l := h.mono hb.size (bcell hb).1
theorem TermsAt.below {w w' : World} {v : Value} {l : List (Int × Int)} (h : TermsAt w v l) (hb : Below w.heap.size w w') : TermsAt w' v l := by
  obtain ⟨a, cap, hv, hl, hc⟩ := h
  refine ⟨a, cap, hv, hl, fun h0 => ?_⟩
  obtain ⟨b, off, ha, hbs, hcell⟩ := hc h0
  exact ⟨b, off, ha, Nat.lt_of_lt_of_le hbs hb.size, fun j hj => ⟨((bcell hb).1 _ _ hbs).trans (hcell j hj).1, ((bcell hb).1 _ _ hbs).trans (hcell j hj).2⟩⟩
theorem RowsAt.below {w w' : World} {v : Value} {l : List (List Int)} (h : RowsAt w v l) (hb : Below w.heap.size w w') : RowsAt w' v l := by
  obtain ⟨a, cap, hv, hl, hc⟩ := h
  refine ⟨a, cap, hv, hl, fun h0 => ?_⟩
  obtain ⟨b, off, ha, hbs, hcell⟩ := hc h0
  refine ⟨b, off, ha, Nat.lt_of_lt_of_le hbs hb.size, fun j hj => ?_⟩
  obtain ⟨u, hu, hI⟩ := hcell j hj
  exact ⟨u, ((bcell hb).1 _ _ hbs).trans hu, hI.below hb⟩
theorem CnAt.below {w w' : World} {c : Md.Cn} {vt vx vb vr : Value} (h : CnAt w c vt vx vb vr) (hb : Below w.heap.size w w') : CnAt w' c vt vx vb vr :=
  ⟨h.t.below hb, h.x.below hb, h.xcap, h.b.below hb, h.r.below hb⟩
theorem IntsAt.form {w : World} {v : Value} {l : List Int} (h : IntsAt w v l) : ∃ a cap, v = .slice a l.length cap ∧ l.length ≤ maxLen := by
  obtain ⟨a, cap, hv, hl, _⟩ := h
  exact ⟨a, cap, hv, hl⟩
theorem TermsAt.form {w : World} {v : Value} {l : List (Int × Int)} (h : TermsAt w v l) : ∃ a cap, v = .slice a l.length cap ∧ l.length ≤ maxLen := by
  obtain ⟨a, cap, hv, hl, _⟩ := h
  exact ⟨a, cap, hv, hl⟩
theorem RowsAt.form {w : World} {v : Value} {l : List (List Int)} (h : RowsAt w v l) : ∃ a cap, v = .slice a l.length cap ∧ l.length ≤ maxLen := by
  obtain ⟨a, cap, hv, hl, _⟩ := h
  exact ⟨a, cap, hv, hl⟩

set_option maxHeartbeats 400000 in
theorem every_num (v : Value) (l : List Int) (w : World) (h : IntsAt w v l) : Calls Tryz.prog 129 #[v, .func (.func 74) #[] #[]] w fun e w' => e = .returned (.bool (l.all Md.numB)) ∧ w' = w := by
  obtain ⟨a, cap, rfl, hm, hc⟩ := h
  unfold maxLen at hm
  have HC : Hid (0 < l.length → ∃ b off, a = some ⟨b, off, none⟩ ∧ b < w.heap.size ∧ ∀ j (h : j < l.length), w.cell? ⟨b, off + j, none⟩ = some (.int .i64 l[j])) := hc
  have H0 : Hid ((l.take 0).all Md.numB = true) := by show _ = _; simp
  clear hc
  go_enter Tryz.func129, Tryz.ntmps129
  go_wp2
  go_loop [9] (fun iv => ∃ k : Nat, iv = .int .i64 (k : Int) ∧ k ≤ l.length ∧ Hid ((l.take k).all Md.numB = true)) (fun iv => l.length - (intOf iv).toNat)
  case atStart => exact ⟨0, rfl, Nat.zero_le _, H0⟩
  case round =>
    obtain ⟨k, rfl, hk, hA⟩ := hrel
    clear H0
    by_cases hlt : k < l.length
    · obtain ⟨b, off, rfl, hb, hc⟩ := HC.out (by omega)
      have hcell := hc k hlt
      have hkI : (k : Int) < (l.length : Int) := by omega
      clear hc
      cases hp : Md.numB l[k]
      · have hres : Hid (l.all Md.numB = false) := Md.all_stop hlt hp
        generalize l[k] = x at *
        go_wp2_with (go_at_call 74; refine (isNumber_any _ _).mono ?_; rintro e w' ⟨rfl, rfl⟩)
        go_ret
        exact ⟨ret_bool hres.out.symm, rfl⟩
      · have hres : Hid ((l.take (k + 1)).all Md.numB = true) := Md.all_next hA.out hlt hp
        generalize l[k] = x at *
        go_wp2_with (go_at_call 74; refine (isNumber_any _ _).mono ?_; rintro e w' ⟨rfl, rfl⟩)
        go_round
        case rel => exact ⟨k + 1, by go_num, by omega, hres⟩
        case measure => simp [intOf]; omega
    · have hkI : ¬ (k : Int) < (l.length : Int) := by omega
      have hres : Hid (l.all Md.numB = true) := Md.all_done hA.out (by omega)
      go_wp2
      go_ret
      exact ⟨ret_bool hres.out.symm, rfl⟩
end Go.Proofs.YtjanpglnahagdaaGreatDoor
