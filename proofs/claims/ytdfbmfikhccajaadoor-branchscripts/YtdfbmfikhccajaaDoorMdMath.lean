/-
  Constraints as plain lists: what may stand, what holds.
-/
namespace Md

/-- A constraint. -/
structure Cn where
  kind : Int
  op : Int
  terms : List (Int × Int)
  k : Int
  v : Int
  x : Int
  y : Int
  xs : List Int
  table : List Int
  rows : List (List Int)

def numB (n : Int) : Bool := decide (-1000000000 ≤ n ∧ n ≤ 1000000000)
def plB (n x : Int) : Bool := decide (0 ≤ x ∧ x < n)
def cfB (c : Int) : Bool := decide (c ≠ 0 ∧ -1000000 ≤ c ∧ c ≤ 1000000)
def fewB (n most : Nat) : Bool := decide (n < 1 ∨ most < n)

def fOp (k : Int) : Bool := k == 1 || k == 9
def fTerms (k : Int) : Bool := k == 1 || k == 7
def fK (k : Int) : Bool := k == 1 || k == 2 || k == 7 || k == 9
def fV (k : Int) : Bool := k == 9
def fX (k : Int) : Bool := k == 2 || k == 4 || k == 7
def fY (k : Int) : Bool := k == 2 || k == 4 || k == 5 || k == 6
def fXs (k : Int) : Bool := k == 3 || k == 5 || k == 6 || k == 8 || k == 9
def fTable (k : Int) : Bool := k == 4
def fRows (k : Int) : Bool := k == 8

def kindBad (kind op : Int) : Bool := decide (kind < 1 ∨ 9 < kind) || (fOp kind && decide (op < 1 ∨ 3 < op))
/-- A plain field that the kind hasn't is set. -/
def plainBad (c : Cn) : Bool :=
  (!fOp c.kind && c.op != 0) || (!fK c.kind && c.k != 0) || (!fV c.kind && c.v != 0) || (!fX c.kind && c.x != 0) || (!fY c.kind && c.y != 0)
def listBad (c : Cn) : Bool :=
  (!fTerms c.kind && decide (0 < c.terms.length)) || (!fXs c.kind && decide (0 < c.xs.length)) || (!fTable c.kind && decide (0 < c.table.length)) || (!fRows c.kind && decide (0 < c.rows.length))
def mostXs (k : Int) : Nat := if k = 8 then 8 else 64
def manyBad (c : Cn) : Bool :=
  (fTerms c.kind && fewB c.terms.length 64) || (fXs c.kind && fewB c.xs.length (mostXs c.kind)) || (fTable c.kind && fewB c.table.length 64) || (fRows c.kind && fewB c.rows.length 64) || !(c.rows.all fun r => r.length == c.xs.length)
def placesB (c : Cn) (n : Int) : Bool := plB n c.x && plB n c.y && c.terms.all (fun t => plB n t.2) && c.xs.all (plB n)
def coefsB (t : List (Int × Int)) : Bool := t.all fun t => cfB t.1
def numsB (c : Cn) : Bool := numB c.k && numB c.v && c.table.all numB && c.rows.all (fun r => r.all numB)

/-- The first fault of a constraint over n variables. -/
def fault (c : Cn) (n : Int) : Int :=
  if kindBad c.kind c.op then 43 else if plainBad c || listBad c then 48 else if manyBad c then 47 else if !placesB c n then 44 else if !coefsB c.terms then 45 else if !numsB c then 46 else 0

def val (vs : List Int) (x : Int) : Int := vs.getD x.toNat 0
def sum (t : List (Int × Int)) (vs : List Int) : Int := t.foldl (fun n t => n + t.1 * val vs t.2) 0
def cmpB (op a b : Int) : Bool := if op = 1 then decide (a ≤ b) else if op = 2 then decide (a = b) else decide (b ≤ a)
def diffB (l : List Int) : Bool := decide (l.Pairwise (· ≠ ·))
def linB (c : Cn) (vs : List Int) : Bool := cmpB c.op (sum c.terms vs) c.k
def neB (c : Cn) (vs : List Int) : Bool := decide (val vs c.x ≠ val vs c.y + c.k)
def adB (c : Cn) (vs : List Int) : Bool := diffB (c.xs.map (val vs))
def elB (c : Cn) (vs : List Int) : Bool := decide (0 ≤ val vs c.x ∧ val vs c.x < c.table.length ∧ val vs c.y = c.table.getD (val vs c.x).toNat 0)
def mxB (c : Cn) (vs : List Int) : Bool := c.xs.all (fun x => decide (val vs x ≤ val vs c.y)) && c.xs.any (fun x => decide (val vs x = val vs c.y))
def mnB (c : Cn) (vs : List Int) : Bool := c.xs.all (fun x => decide (val vs c.y ≤ val vs x)) && c.xs.any (fun x => decide (val vs x = val vs c.y))
def rfB (c : Cn) (vs : List Int) : Bool := if sum c.terms vs ≤ c.k then decide (val vs c.x = 1) else decide (val vs c.x = 0)
def tbB (c : Cn) (vs : List Int) : Bool := c.rows.any fun r => decide (c.xs.map (val vs) = r)
def ctB (c : Cn) (vs : List Int) : Bool := cmpB c.op ((c.xs.countP fun x => decide (val vs x = c.v) : Nat) : Int) c.k
/-- What a constraint that may stand says of values. -/
def hold (c : Cn) (vs : List Int) : Bool :=
  if c.kind = 1 then linB c vs else if c.kind = 2 then neB c vs else if c.kind = 3 then adB c vs else if c.kind = 4 then elB c vs else if c.kind = 5 then mxB c vs else if c.kind = 6 then mnB c vs
  else if c.kind = 7 then rfB c vs else if c.kind = 8 then tbB c vs else ctB c vs
/-- Holds. -/
def holds (c : Cn) (vs : List Int) : Bool := decide (fault c vs.length = 0) && vs.all numB && hold c vs

/-- What a constraint that may stand has. -/
structure Fit (c : Cn) (n : Nat) : Prop where
  kind : 1 ≤ c.kind ∧ c.kind ≤ 9
  op : fOp c.kind = true → 1 ≤ c.op ∧ c.op ≤ 3
  x : 0 ≤ c.x ∧ c.x < n
  y : 0 ≤ c.y ∧ c.y < n
  tx : ∀ t ∈ c.terms, 0 ≤ t.2 ∧ t.2 < n
  xs : ∀ x ∈ c.xs, 0 ≤ x ∧ x < n
  tc : ∀ t ∈ c.terms, -1000000 ≤ t.1 ∧ t.1 ≤ 1000000
  tl : c.terms.length ≤ 64
  xl : c.xs.length ≤ 64
  xp : fXs c.kind = true → 0 < c.xs.length
  bl : c.table.length ≤ 64
  rl : c.rows.length ≤ 64
  rr : ∀ r ∈ c.rows, r.length = c.xs.length
  k : -1000000000 ≤ c.k ∧ c.k ≤ 1000000000
  v : -1000000000 ≤ c.v ∧ c.v ≤ 1000000000

theorem fit_of {c : Cn} {n : Nat} (h : fault c n = 0) : Fit c n := by
  unfold fault at h
  split at h
  · cases h
  rename_i h1
  split at h
  · cases h
  rename_i h2
  split at h
  · cases h
  rename_i h3
  split at h
  · cases h
  rename_i h4
  split at h
  · cases h
  rename_i h5
  split at h
  · cases h
  rename_i h6
  clear h
  simp only [kindBad, Bool.or_eq_true, Bool.and_eq_true, decide_eq_true_eq, not_or, not_and] at h1
  simp only [listBad, plainBad, Bool.or_eq_true, Bool.and_eq_true, Bool.not_eq_true', decide_eq_true_eq, not_or, not_and] at h2
  simp only [manyBad, Bool.or_eq_true, Bool.and_eq_true, fewB, decide_eq_true_eq, not_or, not_and, Bool.not_eq_true', Bool.not_eq_false, List.all_eq_true, beq_iff_eq] at h3
  simp only [placesB, plB, Bool.and_eq_true, decide_eq_true_eq, List.all_eq_true, Bool.not_eq_true', Bool.not_eq_false] at h4
  simp only [coefsB, cfB, decide_eq_true_eq, List.all_eq_true, Bool.not_eq_true', Bool.not_eq_false] at h5
  simp only [numsB, numB, Bool.and_eq_true, decide_eq_true_eq, List.all_eq_true, Bool.not_eq_true', Bool.not_eq_false] at h6
  obtain ⟨⟨⟨m1, m2⟩, m3⟩, m4⟩ := h3.1
  obtain ⟨⟨⟨l1, l2⟩, l3⟩, l4⟩ := h2.2
  refine ⟨by omega, fun ho => by have := h1.2 ho; omega, h4.1.1.1, h4.1.1.2, h4.1.2, h4.2, fun t ht => (h5 t ht).2, ?_, ?_, ?_, ?_, ?_, h3.2, h6.1.1.1, h6.1.1.2⟩
  · cases hf : fTerms c.kind
    · have := l1 hf; omega
    · have := m1 hf; omega
  · cases hf : fXs c.kind
    · have := l2 hf; omega
    · have h := m2 hf
      unfold mostXs at h
      split at h <;> omega
  · intro hf
    have := m2 hf; omega
  · cases hf : fTable c.kind
    · have := l3 hf; omega
    · have := m3 hf; omega
  · cases hf : fRows c.kind
    · have := l4 hf; omega
    · have := m4 hf; omega
theorem all_next {α : Type} {p : α → Bool} {l : List α} {k : Nat} (h : (l.take k).all p = true) (hk : k < l.length) (hp : p l[k] = true) : (l.take (k + 1)).all p = true := by
  rw [List.take_succ_eq_append_getElem hk, List.all_append, h]; simp [hp]
theorem all_stop {α : Type} {p : α → Bool} {l : List α} {k : Nat} (hk : k < l.length) (hp : p l[k] = false) : l.all p = false := by
  rw [List.all_eq_false]; exact ⟨l[k], List.getElem_mem hk, by simp [hp]⟩
theorem all_done {α : Type} {p : α → Bool} {l : List α} {k : Nat} (h : (l.take k).all p = true) (hk : l.length ≤ k) : l.all p = true := by
  rwa [List.take_of_length_le hk] at h
theorem any_next {α : Type} {p : α → Bool} {l : List α} {k : Nat} (hk : k < l.length) : (l.take (k + 1)).any p = ((l.take k).any p || p l[k]) := by
  rw [List.take_succ_eq_append_getElem hk, List.any_append]; simp
theorem any_stop {α : Type} {p : α → Bool} {l : List α} {k : Nat} (hk : k < l.length) (hp : p l[k] = true) : l.any p = true := by
  rw [List.any_eq_true]; exact ⟨l[k], List.getElem_mem hk, hp⟩
theorem any_done {α : Type} {p : α → Bool} {l : List α} {k : Nat} {b : Bool} (h : (l.take k).any p = b) (hk : l.length ≤ k) : l.any p = b := by
  rwa [List.take_of_length_le hk] at h
theorem countP_next {α : Type} {p : α → Bool} {l : List α} {k : Nat} (hk : k < l.length) : (l.take (k + 1)).countP p = (l.take k).countP p + if p l[k] = true then 1 else 0 := by
  rw [List.take_succ_eq_append_getElem hk, List.countP_append]; simp [List.countP_cons]
theorem countP_le_take {α : Type} (p : α → Bool) (l : List α) (k : Nat) : (l.take k).countP p ≤ k := Nat.le_trans List.countP_le_length (List.length_take_le _ _)

theorem val_mem {vs : List Int} (h : vs.all numB = true) (x : Int) : -1000000000 ≤ val vs x ∧ val vs x ≤ 1000000000 := by
  unfold val
  by_cases hx : x.toNat < vs.length
  · rw [List.getD_eq_getElem?_getD, List.getElem?_eq_getElem hx]
    have := List.all_eq_true.1 h _ (List.getElem_mem hx)
    simpa [numB] using this
  · rw [List.getD_eq_getElem?_getD, List.getElem?_eq_none (by omega)]
    simp
theorem val_get {vs : List Int} {m : Nat} (h : m < vs.length) : val vs (m : Int) = vs[m] := by
  unfold val
  rw [List.getD_eq_getElem?_getD, Int.toNat_natCast, List.getElem?_eq_getElem h]; rfl
theorem sum_next {t : List (Int × Int)} {vs : List Int} {k : Nat} (hk : k < t.length) : sum (t.take (k + 1)) vs = sum (t.take k) vs + t[k].1 * val vs t[k].2 := by
  rw [List.take_succ_eq_append_getElem hk]
  unfold sum
  rw [List.foldl_append]; rfl
theorem mul_bd {c v : Int} (h1 : -1000000 ≤ c) (h2 : c ≤ 1000000) (h3 : -1000000000 ≤ v) (h4 : v ≤ 1000000000) : -1000000000000000 ≤ c * v ∧ c * v ≤ 1000000000000000 := by
  have e : (c * v).natAbs ≤ 1000000 * 1000000000 := by
    rw [Int.natAbs_mul]; exact Nat.mul_le_mul (by omega) (by omega)
  omega
theorem sum_bd {t : List (Int × Int)} {vs : List Int} (hv : vs.all numB = true) (ht : ∀ x ∈ t, -1000000 ≤ x.1 ∧ x.1 ≤ 1000000) (k : Nat) (hk : k ≤ t.length) : -(1000000000000000 * (k : Int)) ≤ sum (t.take k) vs ∧ sum (t.take k) vs ≤ 1000000000000000 * (k : Int) := by
  induction k with
  | zero => simp [sum]
  | succ k ih =>
    have hlt : k < t.length := by omega
    have hm := mul_bd (ht _ (List.getElem_mem hlt)).1 (ht _ (List.getElem_mem hlt)).2 (val_mem hv t[k].2).1 (val_mem hv t[k].2).2
    have := ih (by omega)
    rw [sum_next hlt]
    omega
theorem diff_stop {l : List Int} {i j : Nat} (hi : i < l.length) (hj : j < i) (h : l[j] = l[i]) : diffB l = false := by
  unfold diffB
  rw [decide_eq_false_iff_not, List.pairwise_iff_getElem]
  exact fun hp => hp j i (by omega) hi hj h
theorem diff_done {l : List Int} (h : ∀ i (hi : i < l.length), ∀ j (hj : j < i), l[j] ≠ l[i]) : diffB l = true := by
  unfold diffB
  rw [decide_eq_true_eq, List.pairwise_iff_getElem]
  exact fun j i _ hi hj => h i hi j hj
theorem mx_is {c : Cn} {vs : List Int} {g : Int} (h1 : ∀ x ∈ c.xs, val vs x ≤ g) (h2 : ∃ x ∈ c.xs, val vs x = g) : mxB c vs = decide (val vs c.y = g) := by
  unfold mxB
  rw [Bool.eq_iff_iff, Bool.and_eq_true, List.all_eq_true, List.any_eq_true]
  simp only [decide_eq_true_eq]
  obtain ⟨x0, hx0, e0⟩ := h2
  constructor
  · rintro ⟨ha, x, hx, hy⟩
    have := ha x0 hx0
    have := h1 x hx
    omega
  · intro h
    exact ⟨fun x hx => by have := h1 x hx; omega, x0, hx0, by omega⟩
theorem mn_is {c : Cn} {vs : List Int} {g : Int} (h1 : ∀ x ∈ c.xs, g ≤ val vs x) (h2 : ∃ x ∈ c.xs, val vs x = g) : mnB c vs = decide (val vs c.y = g) := by
  unfold mnB
  rw [Bool.eq_iff_iff, Bool.and_eq_true, List.all_eq_true, List.any_eq_true]
  simp only [decide_eq_true_eq]
  obtain ⟨x0, hx0, e0⟩ := h2
  constructor
  · rintro ⟨ha, x, hx, hy⟩
    have := ha x0 hx0
    have := h1 x hx
    omega
  · intro h
    exact ⟨fun x hx => by have := h1 x hx; omega, x0, hx0, by omega⟩
end Md
