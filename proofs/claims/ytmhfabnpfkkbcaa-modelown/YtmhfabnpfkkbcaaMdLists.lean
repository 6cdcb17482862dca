/-
  Put together: MdMath, MdVMath, MdWMath, MdOwnMath.
-/

namespace Md

/-- A constraint. -/
structure Cn where
  kind : Int
  op : Int
  terms : List (Int × Int)
  k : Int
  v : Int
  x : Int
  y : Int
  xs : List Int
  table : List Int
  rows : List (List Int)

def numB (n : Int) : Bool := decide (-1000000000 ≤ n ∧ n ≤ 1000000000)
def plB (n x : Int) : Bool := decide (0 ≤ x ∧ x < n)
def cfB (c : Int) : Bool := decide (c ≠ 0 ∧ -1000000 ≤ c ∧ c ≤ 1000000)
def fewB (n most : Nat) : Bool := decide (n < 1 ∨ most < n)

def fOp (k : Int) : Bool := k == 1 || k == 9
def fTerms (k : Int) : Bool := k == 1 || k == 7
def fK (k : Int) : Bool := k == 1 || k == 2 || k == 7 || k == 9
def fV (k : Int) : Bool := k == 9
def fX (k : Int) : Bool := k == 2 || k == 4 || k == 7
def fY (k : Int) : Bool := k == 2 || k == 4 || k == 5 || k == 6
def fXs (k : Int) : Bool := k == 3 || k == 5 || k == 6 || k == 8 || k == 9
def fTable (k : Int) : Bool := k == 4
def fRows (k : Int) : Bool := k == 8

def kindBad (kind op : Int) : Bool := decide (kind < 1 ∨ 9 < kind) || (fOp kind && decide (op < 1 ∨ 3 < op))
/-- A plain field that the kind hasn't is set. -/
def plainBad (c : Cn) : Bool :=
  (!fOp c.kind && c.op != 0) || (!fK c.kind && c.k != 0) || (!fV c.kind && c.v != 0) || (!fX c.kind && c.x != 0) || (!fY c.kind && c.y != 0)
def listBad (c : Cn) : Bool :=
  (!fTerms c.kind && decide (0 < c.terms.length)) || (!fXs c.kind && decide (0 < c.xs.length)) || (!fTable c.kind && decide (0 < c.table.length)) || (!fRows c.kind && decide (0 < c.rows.length))
def mostXs (k : Int) : Nat := if k = 8 then 8 else 64
def manyBad (c : Cn) : Bool :=
  (fTerms c.kind && fewB c.terms.length 64) || (fXs c.kind && fewB c.xs.length (mostXs c.kind)) || (fTable c.kind && fewB c.table.length 64) || (fRows c.kind && fewB c.rows.length 64) || !(c.rows.all fun r => r.length == c.xs.length)
def placesB (c : Cn) (n : Int) : Bool := plB n c.x && plB n c.y && c.terms.all (fun t => plB n t.2) && c.xs.all (plB n)
def coefsB (t : List (Int × Int)) : Bool := t.all fun t => cfB t.1
def numsB (c : Cn) : Bool := numB c.k && numB c.v && c.table.all numB && c.rows.all (fun r => r.all numB)

/-- The first fault of a constraint over n variables. -/
def fault (c : Cn) (n : Int) : Int :=
  if kindBad c.kind c.op then 43 else if plainBad c || listBad c then 48 else if manyBad c then 47 else if !placesB c n then 44 else if !coefsB c.terms then 45 else if !numsB c then 46 else 0

def val (vs : List Int) (x : Int) : Int := vs.getD x.toNat 0
def sum (t : List (Int × Int)) (vs : List Int) : Int := t.foldl (fun n t => n + t.1 * val vs t.2) 0
def cmpB (op a b : Int) : Bool := if op = 1 then decide (a ≤ b) else if op = 2 then decide (a = b) else decide (b ≤ a)
def diffB (l : List Int) : Bool := decide (l.Pairwise (· ≠ ·))
def linB (c : Cn) (vs : List Int) : Bool := cmpB c.op (sum c.terms vs) c.k
def neB (c : Cn) (vs : List Int) : Bool := decide (val vs c.x ≠ val vs c.y + c.k)
def adB (c : Cn) (vs : List Int) : Bool := diffB (c.xs.map (val vs))
def elB (c : Cn) (vs : List Int) : Bool := decide (0 ≤ val vs c.x ∧ val vs c.x < c.table.length ∧ val vs c.y = c.table.getD (val vs c.x).toNat 0)
def mxB (c : Cn) (vs : List Int) : Bool := c.xs.all (fun x => decide (val vs x ≤ val vs c.y)) && c.xs.any (fun x => decide (val vs x = val vs c.y))
def mnB (c : Cn) (vs : List Int) : Bool := c.xs.all (fun x => decide (val vs c.y ≤ val vs x)) && c.xs.any (fun x => decide (val vs x = val vs c.y))
def rfB (c : Cn) (vs : List Int) : Bool := if sum c.terms vs ≤ c.k then decide (val vs c.x = 1) else decide (val vs c.x = 0)
def tbB (c : Cn) (vs : List Int) : Bool := c.rows.any fun r => decide (c.xs.map (val vs) = r)
def ctB (c : Cn) (vs : List Int) : Bool := cmpB c.op ((c.xs.countP fun x => decide (val vs x = c.v) : Nat) : Int) c.k
/-- What a constraint that may stand says of values. -/
def hold (c : Cn) (vs : List Int) : Bool :=
  if c.kind = 1 then linB c vs else if c.kind = 2 then neB c vs else if c.kind = 3 then adB c vs else if c.kind = 4 then elB c vs else if c.kind = 5 then mxB c vs else if c.kind = 6 then mnB c vs
  else if c.kind = 7 then rfB c vs else if c.kind = 8 then tbB c vs else ctB c vs
/-- Holds. -/
def holds (c : Cn) (vs : List Int) : Bool := decide (fault c vs.length = 0) && vs.all numB && hold c vs

/-- What a constraint that may stand has. -/
structure Fit (c : Cn) (n : Nat) : Prop where
  kind : 1 ≤ c.kind ∧ c.kind ≤ 9
  op : fOp c.kind = true → 1 ≤ c.op ∧ c.op ≤ 3
  x : 0 ≤ c.x ∧ c.x < n
  y : 0 ≤ c.y ∧ c.y < n
  tx : ∀ t ∈ c.terms, 0 ≤ t.2 ∧ t.2 < n
  xs : ∀ x ∈ c.xs, 0 ≤ x ∧ x < n
  tc : ∀ t ∈ c.terms, -1000000 ≤ t.1 ∧ t.1 ≤ 1000000
  tl : c.terms.length ≤ 64
  xl : c.xs.length ≤ 64
  xp : fXs c.kind = true → 0 < c.xs.length
  bl : c.table.length ≤ 64
  rl : c.rows.length ≤ 64
  rr : ∀ r ∈ c.rows, r.length = c.xs.length
  k : -1000000000 ≤ c.k ∧ c.k ≤ 1000000000
  v : -1000000000 ≤ c.v ∧ c.v ≤ 1000000000

theorem fit_of {c : Cn} {n : Nat} (h : fault c n = 0) : Fit c n := by
  unfold fault at h
  split at h
  · cases h
  rename_i h1
  split at h
  · cases h
  rename_i h2
  split at h
  · cases h
  rename_i h3
  split at h
  · cases h
  rename_i h4
  split at h
  · cases h
  rename_i h5
  split at h
  · cases h
  rename_i h6
  clear h
  simp only [kindBad, Bool.or_eq_true, Bool.and_eq_true, decide_eq_true_eq, not_or, not_and] at h1
  simp only [listBad, plainBad, Bool.or_eq_true, Bool.and_eq_true, Bool.not_eq_true', decide_eq_true_eq, not_or, not_and] at h2
  simp only [manyBad, Bool.or_eq_true, Bool.and_eq_true, fewB, decide_eq_true_eq, not_or, not_and, Bool.not_eq_true', Bool.not_eq_false, List.all_eq_true, beq_iff_eq] at h3
  simp only [placesB, plB, Bool.and_eq_true, decide_eq_true_eq, List.all_eq_true, Bool.not_eq_true', Bool.not_eq_false] at h4
  simp only [coefsB, cfB, decide_eq_true_eq, List.all_eq_true, Bool.not_eq_true', Bool.not_eq_false] at h5
  simp only [numsB, numB, Bool.and_eq_true, decide_eq_true_eq, List.all_eq_true, Bool.not_eq_true', Bool.not_eq_false] at h6
  obtain ⟨⟨⟨m1, m2⟩, m3⟩, m4⟩ := h3.1
  obtain ⟨⟨⟨l1, l2⟩, l3⟩, l4⟩ := h2.2
  refine ⟨by omega, fun ho => by have := h1.2 ho; omega, h4.1.1.1, h4.1.1.2, h4.1.2, h4.2, fun t ht => (h5 t ht).2, ?_, ?_, ?_, ?_, ?_, h3.2, h6.1.1.1, h6.1.1.2⟩
  · cases hf : fTerms c.kind
    · have := l1 hf; omega
    · have := m1 hf; omega
  · cases hf : fXs c.kind
    · have := l2 hf; omega
    · have h := m2 hf
      unfold mostXs at h
      split at h <;> omega
  · intro hf
    have := m2 hf; omega
  · cases hf : fTable c.kind
    · have := l3 hf; omega
    · have := m3 hf; omega
  · cases hf : fRows c.kind
    · have := l4 hf; omega
    · have := m4 hf; omega
theorem all_next {α : Type} {p : α → Bool} {l : List α} {k : Nat} (h : (l.take k).all p = true) (hk : k < l.length) (hp : p l[k] = true) : (l.take (k + 1)).all p = true := by
  rw [List.take_succ_eq_append_getElem hk, List.all_append, h]; simp [hp]
theorem all_stop {α : Type} {p : α → Bool} {l : List α} {k : Nat} (hk : k < l.length) (hp : p l[k] = false) : l.all p = false := by
  rw [List.all_eq_false]; exact ⟨l[k], List.getElem_mem hk, by simp [hp]⟩
theorem all_done {α : Type} {p : α → Bool} {l : List α} {k : Nat} (h : (l.take k).all p = true) (hk : l.length ≤ k) : l.all p = true := by
  rwa [List.take_of_length_le hk] at h
theorem any_next {α : Type} {p : α → Bool} {l : List α} {k : Nat} (hk : k < l.length) : (l.take (k + 1)).any p = ((l.take k).any p || p l[k]) := by
  rw [List.take_succ_eq_append_getElem hk, List.any_append]; simp
theorem any_stop {α : Type} {p : α → Bool} {l : List α} {k : Nat} (hk : k < l.length) (hp : p l[k] = true) : l.any p = true := by
  rw [List.any_eq_true]; exact ⟨l[k], List.getElem_mem hk, hp⟩
theorem any_done {α : Type} {p : α → Bool} {l : List α} {k : Nat} {b : Bool} (h : (l.take k).any p = b) (hk : l.length ≤ k) : l.any p = b := by
  rwa [List.take_of_length_le hk] at h
theorem countP_next {α : Type} {p : α → Bool} {l : List α} {k : Nat} (hk : k < l.length) : (l.take (k + 1)).countP p = (l.take k).countP p + if p l[k] = true then 1 else 0 := by
  rw [List.take_succ_eq_append_getElem hk, List.countP_append]; simp [List.countP_cons]
theorem countP_le_take {α : Type} (p : α → Bool) (l : List α) (k : Nat) : (l.take k).countP p ≤ k := Nat.le_trans List.countP_le_length (List.length_take_le _ _)

theorem val_mem {vs : List Int} (h : vs.all numB = true) (x : Int) : -1000000000 ≤ val vs x ∧ val vs x ≤ 1000000000 := by
  unfold val
  by_cases hx : x.toNat < vs.length
  · rw [List.getD_eq_getElem?_getD, List.getElem?_eq_getElem hx]
    have := List.all_eq_true.1 h _ (List.getElem_mem hx)
    simpa [numB] using this
  · rw [List.getD_eq_getElem?_getD, List.getElem?_eq_none (by omega)]
    simp
theorem val_get {vs : List Int} {m : Nat} (h : m < vs.length) : val vs (m : Int) = vs[m] := by
  unfold val
  rw [List.getD_eq_getElem?_getD, Int.toNat_natCast, List.getElem?_eq_getElem h]; rfl
theorem sum_next {t : List (Int × Int)} {vs : List Int} {k : Nat} (hk : k < t.length) : sum (t.take (k + 1)) vs = sum (t.take k) vs + t[k].1 * val vs t[k].2 := by
  rw [List.take_succ_eq_append_getElem hk]
  unfold sum
  rw [List.foldl_append]; rfl
theorem mul_bd {c v : Int} (h1 : -1000000 ≤ c) (h2 : c ≤ 1000000) (h3 : -1000000000 ≤ v) (h4 : v ≤ 1000000000) : -1000000000000000 ≤ c * v ∧ c * v ≤ 1000000000000000 := by
  have e : (c * v).natAbs ≤ 1000000 * 1000000000 := by
    rw [Int.natAbs_mul]; exact Nat.mul_le_mul (by omega) (by omega)
  omega
theorem sum_bd {t : List (Int × Int)} {vs : List Int} (hv : vs.all numB = true) (ht : ∀ x ∈ t, -1000000 ≤ x.1 ∧ x.1 ≤ 1000000) (k : Nat) (hk : k ≤ t.length) : -(1000000000000000 * (k : Int)) ≤ sum (t.take k) vs ∧ sum (t.take k) vs ≤ 1000000000000000 * (k : Int) := by
  induction k with
  | zero => simp [sum]
  | succ k ih =>
    have hlt : k < t.length := by omega
    have hm := mul_bd (ht _ (List.getElem_mem hlt)).1 (ht _ (List.getElem_mem hlt)).2 (val_mem hv t[k].2).1 (val_mem hv t[k].2).2
    have := ih (by omega)
    rw [sum_next hlt]
    omega
theorem diff_stop {l : List Int} {i j : Nat} (hi : i < l.length) (hj : j < i) (h : l[j] = l[i]) : diffB l = false := by
  unfold diffB
  rw [decide_eq_false_iff_not, List.pairwise_iff_getElem]
  exact fun hp => hp j i (by omega) hi hj h
theorem diff_done {l : List Int} (h : ∀ i (hi : i < l.length), ∀ j (hj : j < i), l[j] ≠ l[i]) : diffB l = true := by
  unfold diffB
  rw [decide_eq_true_eq, List.pairwise_iff_getElem]
  exact fun j i _ hi hj => h i hi j hj
theorem mx_is {c : Cn} {vs : List Int} {g : Int} (h1 : ∀ x ∈ c.xs, val vs x ≤ g) (h2 : ∃ x ∈ c.xs, val vs x = g) : mxB c vs = decide (val vs c.y = g) := by
  unfold mxB
  rw [Bool.eq_iff_iff, Bool.and_eq_true, List.all_eq_true, List.any_eq_true]
  simp only [decide_eq_true_eq]
  obtain ⟨x0, hx0, e0⟩ := h2
  constructor
  · rintro ⟨ha, x, hx, hy⟩
    have := ha x0 hx0
    have := h1 x hx
    omega
  · intro h
    exact ⟨fun x hx => by have := h1 x hx; omega, x0, hx0, by omega⟩
theorem mn_is {c : Cn} {vs : List Int} {g : Int} (h1 : ∀ x ∈ c.xs, g ≤ val vs x) (h2 : ∃ x ∈ c.xs, val vs x = g) : mnB c vs = decide (val vs c.y = g) := by
  unfold mnB
  rw [Bool.eq_iff_iff, Bool.and_eq_true, List.all_eq_true, List.any_eq_true]
  simp only [decide_eq_true_eq]
  obtain ⟨x0, hx0, e0⟩ := h2
  constructor
  · rintro ⟨ha, x, hx, hy⟩
    have := ha x0 hx0
    have := h1 x hx
    omega
  · intro h
    exact ⟨fun x hx => by have := h1 x hx; omega, x0, hx0, by omega⟩
end Md

namespace Md

def ltrI (n : Int) : Bool := decide ((97 ≤ n ∧ n ≤ 122) ∨ (65 ≤ n ∧ n ≤ 90) ∨ n = 95)
def digI (n : Int) : Bool := decide (48 ≤ n ∧ n ≤ 57)
def byteI (c : UInt8) : Int := (c.toNat : Int)
def wordB (c : UInt8) : Bool := ltrI (byteI c) || digI (byteI c)
def nameB (s : List UInt8) : Bool := decide (1 ≤ s.length ∧ s.length ≤ 16) && !digI (byteI (s.headD 0)) && s.all wordB

/-- A variable. -/
structure Vr where
  name : ByteArray
  lo : Int
  hi : Int
/-- A problem. -/
structure Mo where
  vars : List Vr
  cons : List Cn
  has : Bool
  goal : List (Int × Int)

def boundsB (lo hi : Int) : Bool := numB lo && numB hi && decide (lo ≤ hi ∧ hi - lo < 64)
def seenB (ahead : List Vr) (s : ByteArray) : Bool := ahead.any fun v => v.name.toList == s.toList
/-- A variable's fault, behind the others. -/
def varFault (v : Vr) (ahead : List Vr) : Int := if !nameB v.name.data.toList || seenB ahead v.name then 41 else if !boundsB v.lo v.hi then 42 else 0
def vFault (l : List Vr) (i : Nat) : Int := match l[i]? with | some v => varFault v (l.take i) | none => 0
def cFault (l : List Cn) (n : Int) (i : Nat) : Int := match l[i]? with | some c => fault c n | none => 0
def goalFault (m : Mo) : Int :=
  if m.has = false then (if 0 < m.goal.length then 48 else 0) else if fewB m.goal.length 64 then 47 else if !(m.goal.all fun t => plB m.vars.length t.2) then 44 else if !coefsB m.goal then 45 else 0
def firstBad (n : Nat) (f : Nat → Int) : Option Nat := (List.range n).find? fun i => f i != 0
/-- The first fault of a problem, and its place. -/
def check (m : Mo) : Int × Int :=
  if fewB m.vars.length 32 then (0, 40) else
  match firstBad m.vars.length (vFault m.vars) with
  | some i => ((i : Int), vFault m.vars i)
  | none =>
    if 64 < m.cons.length then ((m.vars.length : Int), 49) else
    match firstBad m.cons.length (cFault m.cons m.vars.length) with
    | some i => ((m.vars.length : Int) + (i : Int), cFault m.cons m.vars.length i)
    | none => if goalFault m = 0 then (0, 0) else ((m.vars.length : Int) + (m.cons.length : Int), goalFault m)

theorem firstBad_some {n : Nat} {f : Nat → Int} {i : Nat} (hi : i < n) (hb : f i ≠ 0) (h : ∀ j, j < i → f j = 0) : firstBad n f = some i := by
  unfold firstBad
  rw [List.find?_range_eq_some]
  exact ⟨by simpa using hb, by simpa using hi, fun j hj => by simpa using h j hj⟩
theorem firstBad_none {n : Nat} {f : Nat → Int} (h : ∀ j, j < n → f j = 0) : firstBad n f = none := by
  unfold firstBad
  rw [List.find?_eq_none]
  intro j hj
  simpa using h j (by simpa using hj)
theorem firstBad_none_iff {n : Nat} {f : Nat → Int} : firstBad n f = none → ∀ j, j < n → f j = 0 := by
  unfold firstBad
  rw [List.find?_eq_none]
  intro h j hj
  simpa using h j (by simpa using hj)
theorem vFault_get {l : List Vr} {i : Nat} (h : i < l.length) : vFault l i = varFault l[i] (l.take i) := by unfold vFault; rw [List.getElem?_eq_getElem h]
theorem cFault_get {l : List Cn} {n : Int} {i : Nat} (h : i < l.length) : cFault l n i = fault l[i] n := by unfold cFault; rw [List.getElem?_eq_getElem h]

/-- What a right problem has. -/
structure Right (m : Mo) : Prop where
  nv : 1 ≤ m.vars.length ∧ m.vars.length ≤ 32
  var : ∀ v ∈ m.vars, nameB v.name.data.toList = true ∧ boundsB v.lo v.hi = true
  nc : m.cons.length ≤ 64
  con : ∀ c ∈ m.cons, fault c m.vars.length = 0
  goal : goalFault m = 0
theorem right_of {m : Mo} (h : (check m).2 = 0) : Right m := by
  unfold check at h
  split at h
  · cases h
  rename_i h1
  have h1' : ¬ (m.vars.length < 1 ∨ 32 < m.vars.length) := by simpa [fewB] using h1
  split at h
  · rename_i i hi
    unfold firstBad at hi
    have := List.find?_some hi
    simp at this
    exact absurd h this
  rename_i h2
  split at h
  · cases h
  rename_i h3
  split at h
  · rename_i i hi
    unfold firstBad at hi
    have := List.find?_some hi
    simp at this
    exact absurd h this
  rename_i h4
  have h5 : goalFault m = 0 := by
    split at h
    · assumption
    · exact h
  refine ⟨by omega, fun v hv => ?_, by omega, fun c hc => ?_, h5⟩
  · obtain ⟨i, hi, rfl⟩ := List.getElem_of_mem hv
    have := firstBad_none_iff h2 i hi
    rw [vFault_get hi] at this
    unfold varFault at this
    split at this
    · cases this
    rename_i a
    split at this
    · cases this
    rename_i b
    simp at a b
    exact ⟨a.1, b⟩
  · obtain ⟨i, hi, rfl⟩ := List.getElem_of_mem hc
    have := firstBad_none_iff h4 i hi
    rwa [cFault_get hi] at this
theorem bounds_of {lo hi : Int} (h : boundsB lo hi = true) : (-1000000000 ≤ lo ∧ lo ≤ 1000000000) ∧ (-1000000000 ≤ hi ∧ hi ≤ 1000000000) ∧ lo ≤ hi ∧ hi - lo < 64 := by
  simp [boundsB, numB] at h
  omega
theorem goal_of {m : Mo} (h : goalFault m = 0) : (m.has = false → m.goal = []) ∧ m.goal.length ≤ 64 ∧ (∀ t ∈ m.goal, 0 ≤ t.2 ∧ t.2 < m.vars.length) ∧ ∀ t ∈ m.goal, t.1 ≠ 0 ∧ -1000000 ≤ t.1 ∧ t.1 ≤ 1000000 := by
  unfold goalFault at h
  split at h
  · split at h
    · cases h
    · rename_i h1 h2
      have : m.goal = [] := List.length_eq_zero_iff.1 (by omega)
      rw [this]; simp
  rename_i h0
  split at h
  · cases h
  rename_i h1
  split at h
  · cases h
  rename_i h2
  split at h
  · cases h
  rename_i h3
  simp only [fewB, decide_eq_true_eq] at h1
  simp only [plB, Bool.not_eq_true', Bool.not_eq_false, List.all_eq_true, decide_eq_true_eq] at h2
  simp only [coefsB, cfB, Bool.not_eq_true', Bool.not_eq_false, List.all_eq_true, decide_eq_true_eq] at h3
  exact ⟨fun h => absurd h h0, by omega, h2, h3⟩

/-- The product of the sizes. -/
def prod : List Vr → Int → Int → Option Int
  | [], _, n => some n
  | v :: l, most, n => if most.tdiv (v.hi - v.lo + 1) < n then none else prod l most (n * (v.hi - v.lo + 1))
def product (m : Mo) (most : Int) : Int × Bool :=
  if (check m).2 = 0 then (match prod m.vars most 1 with | some n => (n, true) | none => (0, false)) else (0, false)
def varAt (l : List Vr) (x : Int) : Vr := l.getD x.toNat ⟨⟨#[]⟩, 0, 0⟩
def lowS (l : List Vr) (t : List (Int × Int)) : Int := t.foldl (fun n t => n + (if 0 < t.1 then t.1 * (varAt l t.2).lo else t.1 * (varAt l t.2).hi)) 0
def topS (l : List Vr) (t : List (Int × Int)) : Int := t.foldl (fun n t => n + (if 0 < t.1 then t.1 * (varAt l t.2).hi else t.1 * (varAt l t.2).lo)) 0
def floor (m : Mo) : Int := if (check m).2 = 0 then lowS m.vars m.goal else 0
def ceil (m : Mo) : Int := if (check m).2 = 0 then topS m.vars m.goal else 0
def insideB : List Vr → List Int → Bool
  | [], [] => true
  | v :: l, x :: xs => decide (v.lo ≤ x ∧ x ≤ v.hi) && insideB l xs
  | _, _ => false
def solution (m : Mo) (vs : List Int) : Bool := decide ((check m).2 = 0) && insideB m.vars vs && m.cons.all fun c => hold c vs
def worth (m : Mo) (vs : List Int) : Int := if (check m).2 = 0 ∧ vs.length = m.vars.length ∧ vs.all numB = true then sum m.goal vs else 0
end Md

namespace Md

theorem fold_le {α : Type} (f g : α → Int) : ∀ (l : List α) (a b : Int), a ≤ b → (∀ x ∈ l, f x ≤ g x) → l.foldl (fun n t => n + f t) a ≤ l.foldl (fun n t => n + g t) b
  | [], _, _, h, _ => h
  | x :: l, a, b, h, hx => fold_le f g l (a + f x) (b + g x) (Int.add_le_add h (hx x List.mem_cons_self)) fun y hy => hx y (List.mem_cons_of_mem _ hy)
theorem fold_same {α : Type} (f g : α → Int) (l : List α) (a : Int) (h : ∀ x ∈ l, f x = g x) : l.foldl (fun n t => n + f t) a = l.foldl (fun n t => n + g t) a :=
  Int.le_antisymm (fold_le f g l a a (Int.le_refl _) fun x hx => Int.le_of_eq (h x hx)) (fold_le g f l a a (Int.le_refl _) fun x hx => Int.le_of_eq (h x hx).symm)

/-- Values within the bounds. -/
def Within (l : List Vr) (vs : List Int) : Prop := vs.length = l.length ∧ ∀ x : Int, 0 ≤ x → x < l.length → (varAt l x).lo ≤ val vs x ∧ val vs x ≤ (varAt l x).hi

theorem term_between {c lo hi v : Int} (h1 : lo ≤ v) (h2 : v ≤ hi) : (if 0 < c then c * lo else c * hi) ≤ c * v ∧ c * v ≤ (if 0 < c then c * hi else c * lo) := by
  split
  · rename_i h
    exact ⟨Int.mul_le_mul_of_nonneg_left h1 (Int.le_of_lt h), Int.mul_le_mul_of_nonneg_left h2 (Int.le_of_lt h)⟩
  · rename_i h
    exact ⟨Int.mul_le_mul_of_nonpos_left (Int.not_lt.1 h) h2, Int.mul_le_mul_of_nonpos_left (Int.not_lt.1 h) h1⟩

theorem sum_between {l : List Vr} {t : List (Int × Int)} {vs : List Int} (hW : Within l vs) (hg : ∀ x ∈ t, 0 ≤ x.2 ∧ x.2 < (l.length : Int)) : lowS l t ≤ sum t vs ∧ sum t vs ≤ topS l t := by
  have hh : ∀ x ∈ t, (if 0 < x.1 then x.1 * (varAt l x.2).lo else x.1 * (varAt l x.2).hi) ≤ x.1 * val vs x.2 ∧ x.1 * val vs x.2 ≤ (if 0 < x.1 then x.1 * (varAt l x.2).hi else x.1 * (varAt l x.2).lo) := fun x hx =>
    term_between (hW.2 x.2 (hg x hx).1 (hg x hx).2).1 (hW.2 x.2 (hg x hx).1 (hg x hx).2).2
  exact ⟨fold_le (fun x : Int × Int => if 0 < x.1 then x.1 * (varAt l x.2).lo else x.1 * (varAt l x.2).hi) (fun x => x.1 * val vs x.2) t 0 0 (Int.le_refl _) fun x hx => (hh x hx).1,
    fold_le (fun x : Int × Int => x.1 * val vs x.2) (fun x => if 0 < x.1 then x.1 * (varAt l x.2).hi else x.1 * (varAt l x.2).lo) t 0 0 (Int.le_refl _) fun x hx => (hh x hx).2⟩

theorem low_reached {l : List Vr} {t : List (Int × Int)} {vs : List Int} (h : ∀ x ∈ t, val vs x.2 = if x.1 < 0 then (varAt l x.2).hi else (varAt l x.2).lo) : sum t vs = lowS l t :=
  fold_same (fun x : Int × Int => x.1 * val vs x.2) (fun x => if 0 < x.1 then x.1 * (varAt l x.2).lo else x.1 * (varAt l x.2).hi) t 0 fun x hx => by
    show x.1 * val vs x.2 = if 0 < x.1 then x.1 * (varAt l x.2).lo else x.1 * (varAt l x.2).hi
    rw [h x hx]
    by_cases h1 : x.1 < 0
    · rw [if_pos h1, if_neg (by omega)]
    · rw [if_neg h1]
      by_cases h2 : 0 < x.1
      · rw [if_pos h2]
      · rw [if_neg h2, show x.1 = 0 from by omega]; simp
theorem top_reached {l : List Vr} {t : List (Int × Int)} {vs : List Int} (h : ∀ x ∈ t, val vs x.2 = if x.1 < 0 then (varAt l x.2).lo else (varAt l x.2).hi) : sum t vs = topS l t :=
  fold_same (fun x : Int × Int => x.1 * val vs x.2) (fun x => if 0 < x.1 then x.1 * (varAt l x.2).hi else x.1 * (varAt l x.2).lo) t 0 fun x hx => by
    show x.1 * val vs x.2 = if 0 < x.1 then x.1 * (varAt l x.2).hi else x.1 * (varAt l x.2).lo
    rw [h x hx]
    by_cases h1 : x.1 < 0
    · rw [if_pos h1, if_neg (by omega)]
    · rw [if_neg h1]
      by_cases h2 : 0 < x.1
      · rw [if_pos h2]
      · rw [if_neg h2, show x.1 = 0 from by omega]; simp
end Md

namespace Md

/-- Does a constraint name that variable? -/
def namesB (c : Cn) (x : Int) : Bool := decide (c.x = x) || decide (c.y = x) || c.terms.any (fun t => decide (t.2 = x)) || c.xs.any (fun y => decide (y = x))

theorem names_t {c : Cn} {t : Int × Int} (h : t ∈ c.terms) : namesB c t.2 = true := by
  have : c.terms.any (fun u => decide (u.2 = t.2)) = true := List.any_eq_true.2 ⟨t, h, by simp⟩
  simp [namesB, this]
theorem names_s {c : Cn} {x : Int} (h : x ∈ c.xs) : namesB c x = true := by
  have : c.xs.any (fun u => decide (u = x)) = true := List.any_eq_true.2 ⟨x, h, by simp⟩
  simp [namesB, this]
theorem names_x (c : Cn) : namesB c c.x = true := by simp [namesB]
theorem names_y (c : Cn) : namesB c c.y = true := by simp [namesB]
theorem all_same {α : Type} {p q : α → Bool} {l : List α} (h : ∀ x ∈ l, p x = q x) : l.all p = l.all q := by
  induction l with
  | nil => rfl
  | cons a l ih => rw [List.all_cons, List.all_cons, h a List.mem_cons_self, ih fun x hx => h x (List.mem_cons_of_mem _ hx)]
theorem any_same {α : Type} {p q : α → Bool} {l : List α} (h : ∀ x ∈ l, p x = q x) : l.any p = l.any q := by
  induction l with
  | nil => rfl
  | cons a l ih => rw [List.any_cons, List.any_cons, h a List.mem_cons_self, ih fun x hx => h x (List.mem_cons_of_mem _ hx)]
theorem sum_same {t : List (Int × Int)} {a b : List Int} (h : ∀ x ∈ t, val a x.2 = val b x.2) : sum t a = sum t b :=
  fold_same _ _ t 0 fun x hx => by rw [h x hx]
theorem hold_same {c : Cn} {a b : List Int} (h : ∀ x, namesB c x = true → val a x = val b x) : hold c a = hold c b := by
  have hx := h c.x (names_x c)
  have hy := h c.y (names_y c)
  have ht : sum c.terms a = sum c.terms b := sum_same fun t ht => h _ (names_t ht)
  have hs : c.xs.map (val a) = c.xs.map (val b) := List.map_congr_left fun x hm => h x (names_s hm)
  have hc : (c.xs.countP fun x => decide (val a x = c.v)) = c.xs.countP fun x => decide (val b x = c.v) := List.countP_congr fun x hm => by rw [h x (names_s hm)]
  have hmx : mxB c a = mxB c b := by
    unfold mxB
    rw [all_same (q := fun x => decide (val b x ≤ val b c.y)) fun x hm => by rw [h x (names_s hm), hy], any_same (q := fun x => decide (val b x = val b c.y)) fun x hm => by rw [h x (names_s hm), hy]]
  have hmn : mnB c a = mnB c b := by
    unfold mnB
    rw [all_same (q := fun x => decide (val b c.y ≤ val b x)) fun x hm => by rw [h x (names_s hm), hy], any_same (q := fun x => decide (val b x = val b c.y)) fun x hm => by rw [h x (names_s hm), hy]]
  unfold hold
  rw [hmx, hmn]
  unfold linB neB adB elB rfB tbB ctB
  rw [ht, hx, hy, hs, hc]

def mixV (c : Cn) (vs other : List Int) (i : Nat) : Int := if namesB c i = true ∨ other.length ≤ i ∨ numB (other.getD i 0) = false then vs.getD i 0 else other.getD i 0
def mixI (c : Cn) (vs other : List Int) : List Int := (List.range vs.length).map (mixV c vs other)
theorem mixI_len (c : Cn) (vs other : List Int) : (mixI c vs other).length = vs.length := by simp [mixI]
theorem holds_of {c : Cn} {vs : List Int} (h : holds c vs = true) : fault c vs.length = 0 ∧ vs.all numB = true ∧ hold c vs = true := by
  simpa [holds, and_assoc] using h
theorem holds_mix {c : Cn} {vs other : List Int} (h : holds c vs = true) : holds c (mixI c vs other) = true := by
  obtain ⟨h1, h2, h3⟩ := holds_of h
  have hf := fit_of h1
  have hn : (mixI c vs other).all numB = true := by
    rw [List.all_eq_true] at h2 ⊢
    intro z hz
    obtain ⟨i, hi, rfl⟩ := List.mem_map.1 hz
    have hi' : i < vs.length := List.mem_range.1 hi
    unfold mixV
    split
    · rw [List.getD_eq_getElem?_getD, List.getElem?_eq_getElem hi']
      exact h2 _ (List.getElem_mem hi')
    · rename_i hn
      simp only [not_or, Bool.not_eq_false] at hn
      exact hn.2.2
  have hv : ∀ x, namesB c x = true → val (mixI c vs other) x = val vs x := by
    intro x hx
    have hr : 0 ≤ x ∧ x < vs.length := by
      simp only [namesB, Bool.or_eq_true, decide_eq_true_eq, List.any_eq_true] at hx
      rcases hx with ((hx | hx) | ⟨t, ht, hx⟩) | ⟨y, hy, hx⟩
      · rw [← hx]; exact hf.x
      · rw [← hx]; exact hf.y
      · rw [← hx]; exact hf.tx t ht
      · rw [← hx]; exact hf.xs y hy
    obtain ⟨k, rfl⟩ : ∃ k : Nat, x = (k : Int) := ⟨x.toNat, by omega⟩
    have hk : k < vs.length := by omega
    simp only [val, Int.toNat_natCast, mixI]
    rw [List.getD_eq_getElem?_getD, List.getElem?_map, List.getElem?_range hk]
    simp [mixV, hx]
  unfold holds
  rw [mixI_len, hn, hold_same hv, h1, h3]
  rfl

/-- Equal is at most and at least. -/
theorem fault_op {c : Cn} {o p : Int} (n : Int) (hk : fOp c.kind = true) (ho : 1 ≤ o ∧ o ≤ 3) (hp : 1 ≤ p ∧ p ≤ 3) : fault { c with op := o } n = fault { c with op := p } n := by
  have e1 : decide (o < 1 ∨ 3 < o) = false := by simp; omega
  have e2 : decide (p < 1 ∨ 3 < p) = false := by simp; omega
  simp only [fault, kindBad, plainBad, listBad, manyBad, placesB, numsB, e1, e2, hk, Bool.not_true, Bool.false_and, Bool.and_false]
  rfl
theorem cmp_both (a b : Int) : cmpB 2 a b = (cmpB 1 a b && cmpB 3 a b) := by
  simp only [cmpB, if_true, if_neg (show ¬ (2 : Int) = 1 by decide), if_neg (show ¬ (3 : Int) = 1 by decide), if_neg (show ¬ (3 : Int) = 2 by decide)]
  by_cases h : a = b
  · subst h; simp
  · rcases Int.lt_or_gt_of_ne h with h1 | h1
    · have h2 : ¬ b ≤ a := by omega
      simp [h, h2]
    · have h2 : ¬ a ≤ b := by omega
      simp [h, h2]
theorem holds_both {c : Cn} {vs : List Int} (hk : c.kind = 1 ∨ c.kind = 9) : holds { c with op := 2 } vs = (holds { c with op := 1 } vs && holds { c with op := 3 } vs) := by
  have hf : fOp c.kind = true := by rcases hk with h | h <;> simp [fOp, h]
  have e1 := fault_op (c := c) (o := 2) (p := 1) vs.length hf (by decide) (by decide)
  have e2 := fault_op (c := c) (o := 3) (p := 1) vs.length hf (by decide) (by decide)
  unfold holds
  rw [e1, e2]
  have hh : hold { c with op := 2 } vs = (hold { c with op := 1 } vs && hold { c with op := 3 } vs) := by
    rcases hk with h | h
    · simp only [hold, h, if_true, linB]
      exact cmp_both _ _
    · simp only [hold, h, ctB, if_neg (show ¬ (9 : Int) = 1 by decide), if_neg (show ¬ (9 : Int) = 2 by decide), if_neg (show ¬ (9 : Int) = 3 by decide), if_neg (show ¬ (9 : Int) = 4 by decide), if_neg (show ¬ (9 : Int) = 5 by decide), if_neg (show ¬ (9 : Int) = 6 by decide), if_neg (show ¬ (9 : Int) = 7 by decide), if_neg (show ¬ (9 : Int) = 8 by decide)]
      exact cmp_both _ _
  rw [hh]
  cases decide (fault { c with op := 1 } vs.length = 0) <;> cases vs.all numB <;> cases hold { c with op := 1 } vs <;> cases hold { c with op := 3 } vs <;> rfl
theorem hold9 {c : Cn} {vs : List Int} (h : c.kind = 9) : hold c vs = ctB c vs := by
  simp only [hold, h, if_neg (show ¬ (9 : Int) = 1 by decide), if_neg (show ¬ (9 : Int) = 2 by decide), if_neg (show ¬ (9 : Int) = 3 by decide), if_neg (show ¬ (9 : Int) = 4 by decide), if_neg (show ¬ (9 : Int) = 5 by decide), if_neg (show ¬ (9 : Int) = 6 by decide), if_neg (show ¬ (9 : Int) = 7 by decide), if_neg (show ¬ (9 : Int) = 8 by decide)]
theorem holds_all {c : Cn} {vs : List Int} (hk : c.kind = 9) (hc : numB c.k = true) (hl : c.xs.length ≤ 1000000000) : holds { c with op := 1, k := (c.xs.length : Int) } vs = (holds { c with op := 1 } vs || holds { c with op := 3 } vs) := by
  have hf : fOp c.kind = true := by simp [fOp, hk]
  have e2 := fault_op (c := c) (o := 3) (p := 1) vs.length hf (by decide) (by decide)
  have e3 : fault { c with op := 1, k := (c.xs.length : Int) } vs.length = fault { c with op := 1 } vs.length := by
    have hn : numB (c.xs.length : Int) = true := by simp [numB]; omega
    have hK : fK c.kind = true := by simp [fK, hk]
    simp only [fault, kindBad, plainBad, listBad, manyBad, placesB, numsB, hn, hc, hK, Bool.not_true, Bool.false_and]
  unfold holds
  rw [e2, e3]
  have h1 : hold { c with op := 1, k := (c.xs.length : Int) } vs = true := by
    rw [hold9 (c := { c with op := 1, k := (c.xs.length : Int) }) hk]
    have := List.countP_le_length (p := fun x => decide (val vs x = c.v)) (l := c.xs)
    simp only [ctB, cmpB, if_true, decide_eq_true_eq]
    omega
  have h2 : (hold { c with op := 1 } vs || hold { c with op := 3 } vs) = true := by
    rw [hold9 (c := { c with op := 1 }) hk, hold9 (c := { c with op := 3 }) hk]
    simp only [ctB, cmpB, if_true, if_neg (show ¬ (3 : Int) = 1 by decide), if_neg (show ¬ (3 : Int) = 2 by decide), Bool.or_eq_true, decide_eq_true_eq]
    omega
  rw [h1]
  revert h2
  cases decide (fault { c with op := 1 } vs.length = 0) <;> cases vs.all numB <;> cases hold { c with op := 1 } vs <;> cases hold { c with op := 3 } vs <;> simp

/-- Rows in another order, one twice, one less. -/
theorem fault_rows {c : Cn} {r s : List (List Int)} (n : Int) (h1 : (decide (0 < r.length)) = decide (0 < s.length)) (h2 : fewB r.length 64 = fewB s.length 64) (h3 : (r.all fun x => x.length == c.xs.length) = s.all fun x => x.length == c.xs.length) (h4 : (r.all fun x => x.all numB) = s.all fun x => x.all numB) : fault { c with rows := r } n = fault { c with rows := s } n := by
  simp only [fault, plainBad, listBad, manyBad, placesB, numsB, h1, h2, h3, h4]
  rfl
theorem hold8 {c : Cn} {vs : List Int} (h : c.kind = 8) : hold c vs = tbB c vs := by
  simp only [hold, h, if_true, if_neg (show ¬ (8 : Int) = 1 by decide), if_neg (show ¬ (8 : Int) = 2 by decide), if_neg (show ¬ (8 : Int) = 3 by decide), if_neg (show ¬ (8 : Int) = 4 by decide), if_neg (show ¬ (8 : Int) = 5 by decide), if_neg (show ¬ (8 : Int) = 6 by decide), if_neg (show ¬ (8 : Int) = 7 by decide)]
theorem holds_reverse {c : Cn} {vs : List Int} (hk : c.kind = 8) : holds { c with rows := c.rows.reverse } vs = holds c vs := by
  have e1 : fault { c with rows := c.rows.reverse } vs.length = fault c vs.length := fault_rows (c := c) (s := c.rows) _ (by simp) (by simp) (by simp) (by simp)
  have e2 : hold { c with rows := c.rows.reverse } vs = hold c vs := by
    rw [hold8 hk, hold8 (c := { c with rows := c.rows.reverse }) hk]
    simp [tbB]
  unfold holds
  rw [e1, e2]
theorem holds_twice {c : Cn} {vs : List Int} (hk : c.kind = 8) (h0 : c.rows ≠ []) (h64 : c.rows.length < 64) : holds { c with rows := c.rows ++ [c.rows.getLast h0] } vs = holds c vs := by
  have hm : c.rows.getLast h0 ∈ c.rows := List.getLast_mem h0
  have hp : 0 < c.rows.length := List.length_pos_iff.2 h0
  have hall : ∀ p : List Int → Bool, ((c.rows ++ [c.rows.getLast h0]).all p) = c.rows.all p := fun p => by
    rw [List.all_append, List.all_cons, List.all_nil, Bool.and_true]
    cases hx : c.rows.all p
    · rfl
    · rw [List.all_eq_true.1 hx _ hm]; rfl
  have hany : ∀ p : List Int → Bool, ((c.rows ++ [c.rows.getLast h0]).any p) = c.rows.any p := fun p => by
    rw [List.any_append, List.any_cons, List.any_nil, Bool.or_false]
    cases hx : p (c.rows.getLast h0)
    · rw [Bool.or_false]
    · rw [List.any_eq_true.2 ⟨_, hm, hx⟩]; rfl
  have e1 : fault { c with rows := c.rows ++ [c.rows.getLast h0] } vs.length = fault c vs.length :=
    fault_rows (c := c) (s := c.rows) _ (by simp [hp]) (by simp only [fewB, List.length_append, List.length_singleton]; congr 1; apply propext; omega) (hall _) (hall _)
  have e2 : hold { c with rows := c.rows ++ [c.rows.getLast h0] } vs = hold c vs := by
    rw [hold8 hk, hold8 (c := { c with rows := c.rows ++ [c.rows.getLast h0] }) hk]
    exact hany _
  unfold holds
  rw [e1, e2]
theorem holds_less {c : Cn} {vs : List Int} (hk : c.kind = 8) (hf : fault c vs.length = 0) (h : holds { c with rows := c.rows.dropLast } vs = true) : holds c vs = true := by
  obtain ⟨_, h2, h3⟩ := holds_of h
  rw [hold8 (c := { c with rows := c.rows.dropLast }) hk] at h3
  have h4 : tbB c vs = true := by
    unfold tbB at h3 ⊢
    rw [List.any_eq_true] at h3 ⊢
    obtain ⟨r, hr, hp⟩ := h3
    exact ⟨r, (List.dropLast_sublist _).subset hr, hp⟩
  unfold holds
  rw [hf, h2, hold8 hk, h4]
  rfl

/-- Signs turned. -/
def neg64 (z : Int) : Int := if z = -9223372036854775808 then z else -z
theorem neg_num (z : Int) : numB (neg64 z) = numB z := by
  unfold neg64 numB
  split
  · rfl
  · congr 1; apply propext; omega
theorem neg_cf (z : Int) : cfB (neg64 z) = cfB z := by
  unfold neg64 cfB
  split
  · rfl
  · congr 1; apply propext; omega
theorem neg_is {z : Int} (h : -9223372036854775808 < z) : neg64 z = -z := by unfold neg64; rw [if_neg (by omega)]
def lin (op k : Int) (t : List (Int × Int)) : Cn := ⟨1, op, t, k, 0, 0, 0, [], [], []⟩
def turnT (t : List (Int × Int)) : List (Int × Int) := t.map fun u => (neg64 u.1, u.2)
theorem sum_turn (t : List (Int × Int)) (vs : List Int) (h : ∀ u ∈ t, cfB u.1 = true) : sum (turnT t) vs = - sum t vs := by
  have key : ∀ (t : List (Int × Int)) (a : Int), (∀ u ∈ t, cfB u.1 = true) → (turnT t).foldl (fun n t => n + t.1 * val vs t.2) (-a) = -(t.foldl (fun n t => n + t.1 * val vs t.2) a) := by
    intro t
    induction t with
    | nil => intro a _; rfl
    | cons u t ih =>
      intro a hu
      have h1 := hu u List.mem_cons_self
      simp only [cfB, decide_eq_true_eq] at h1
      have e : neg64 u.1 = -u.1 := neg_is (by omega)
      simp only [turnT, List.map_cons, List.foldl_cons, e]
      have e2 : -a + -u.1 * val vs u.2 = -(a + u.1 * val vs u.2) := by rw [Int.neg_mul]; omega
      rw [e2]
      exact ih _ fun x hx => hu x (List.mem_cons_of_mem _ hx)
  have := key t 0 h
  simpa [sum] using this
theorem fault_turn (k : Int) (t : List (Int × Int)) (n : Int) : fault (lin 3 (neg64 k) (turnT t)) n = fault (lin 1 k t) n := by
  have e1 : (turnT t).length = t.length := by simp [turnT]
  have e2 : ((turnT t).all fun t => plB n t.2) = t.all fun t => plB n t.2 := by simp [turnT, List.all_map, Function.comp_def]
  have e3 : coefsB (turnT t) = coefsB t := by simp [turnT, coefsB, List.all_map, Function.comp_def, neg_cf]
  have e4 : kindBad 1 3 = kindBad 1 1 := by decide
  simp only [fault, lin, plainBad, listBad, manyBad, placesB, numsB, e1, e2, e3, e4, neg_num, show fK 1 = true from rfl, show fOp 1 = true from rfl, Bool.not_true, Bool.false_and]
  rfl
theorem fault_zero {c : Cn} {n : Int} (h : fault c n = 0) : kindBad c.kind c.op = false ∧ (plainBad c || listBad c) = false ∧ manyBad c = false ∧ placesB c n = true ∧ coefsB c.terms = true ∧ numsB c = true := by
  unfold fault at h
  split at h
  · cases h
  rename_i h1
  split at h
  · cases h
  rename_i h2
  split at h
  · cases h
  rename_i h3
  split at h
  · cases h
  rename_i h4
  split at h
  · cases h
  rename_i h5
  split at h
  · cases h
  rename_i h6
  simp only [Bool.not_eq_true', Bool.not_eq_false, Bool.not_eq_true] at h1 h2 h3 h4 h5 h6
  exact ⟨h1, h2, h3, h4, h5, h6⟩
theorem hold_lin (op k : Int) (t : List (Int × Int)) (vs : List Int) : hold (lin op k t) vs = cmpB op (sum t vs) k := by simp [hold, lin, linB]
theorem holds_turn (k : Int) (t : List (Int × Int)) (vs : List Int) : holds (lin 3 (neg64 k) (turnT t)) vs = holds (lin 1 k t) vs := by
  unfold holds
  rw [fault_turn]
  by_cases hf : fault (lin 1 k t) vs.length = 0
  · obtain ⟨_, _, _, _, h5, h6⟩ := fault_zero hf
    have hk : numB k = true := by
      simp only [numsB, lin, Bool.and_eq_true] at h6
      exact h6.1.1.1
    have ek : neg64 k = -k := neg_is (by simp only [numB, decide_eq_true_eq] at hk; omega)
    have ht : ∀ u ∈ t, cfB u.1 = true := by simpa [coefsB, lin, List.all_eq_true] using h5
    rw [hold_lin, hold_lin, sum_turn t vs ht, ek]
    have : cmpB 3 (-sum t vs) (-k) = cmpB 1 (sum t vs) k := by
      simp only [cmpB, if_true, if_neg (show ¬ (3 : Int) = 1 by decide), if_neg (show ¬ (3 : Int) = 2 by decide)]
      congr 1; apply propext; omega
    rw [this]
  · rw [decide_eq_false hf]
    rfl
theorem reif_lin {c : Cn} {n : Nat} (hk : c.kind = 7) (h : fault c n = 0) : fault (lin 1 c.k c.terms) n = 0 := by
  have hf := fit_of h
  obtain ⟨_, _, h3, h4, h5, h6⟩ := fault_zero h
  have e1 : kindBad 1 1 = false := by decide
  have e3 : fewB c.terms.length 64 = false := by
    simp only [manyBad, hk, Bool.or_eq_false_iff] at h3
    simpa [fTerms] using h3.1.1.1.1
  have e4 : (c.terms.all fun t => plB n t.2) = true := by
    simp only [placesB, Bool.and_eq_true] at h4
    exact h4.1.2
  have e5 : plB n 0 = true := by have := hf.x; simp [plB]; omega
  have e6 : numB c.k = true := by
    simp only [numsB, Bool.and_eq_true] at h6
    exact h6.1.1.1
  have e7 : numB 0 = true := by decide
  simp only [fault, lin, e1, plainBad, listBad, manyBad, placesB, numsB, e3, e4, e5, e6, e7, h5, show fK 1 = true from rfl, show fOp 1 = true from rfl, show fTerms 1 = true from rfl, show fXs 1 = false from rfl, show fTable 1 = false from rfl, show fRows 1 = false from rfl, show fV 1 = false from rfl, show fX 1 = false from rfl, show fY 1 = false from rfl]
  simp
theorem hold7 {c : Cn} {vs : List Int} (h : c.kind = 7) : hold c vs = rfB c vs := by
  simp only [hold, h, if_true, if_neg (show ¬ (7 : Int) = 1 by decide), if_neg (show ¬ (7 : Int) = 2 by decide), if_neg (show ¬ (7 : Int) = 3 by decide), if_neg (show ¬ (7 : Int) = 4 by decide), if_neg (show ¬ (7 : Int) = 5 by decide), if_neg (show ¬ (7 : Int) = 6 by decide)]
theorem reif_says {c : Cn} {vs : List Int} (hk : c.kind = 7) (h : holds c vs = true) : (val vs c.x = 1 ∧ holds (lin 1 c.k c.terms) vs = true) ∨ (val vs c.x = 0 ∧ holds (lin 1 c.k c.terms) vs = false) := by
  obtain ⟨h1, h2, h3⟩ := holds_of h
  have e := reif_lin hk h1
  rw [hold7 hk] at h3
  unfold rfB at h3
  unfold holds
  rw [e, h2, hold_lin]
  simp only [cmpB, if_true]
  by_cases hs : sum c.terms vs ≤ c.k
  · rw [if_pos hs] at h3
    exact Or.inl ⟨by simpa using h3, by simp [hs]⟩
  · rw [if_neg hs] at h3
    exact Or.inr ⟨by simpa using h3, by simp [hs]⟩
end Md
