/-
  Problems as plain lists.
-/
import Derived.Test.YtdfbmfikhccajaaDoorMdMath
namespace Md

def ltrI (n : Int) : Bool := decide ((97 ≤ n ∧ n ≤ 122) ∨ (65 ≤ n ∧ n ≤ 90) ∨ n = 95)
def digI (n : Int) : Bool := decide (48 ≤ n ∧ n ≤ 57)
def byteI (c : UInt8) : Int := (c.toNat : Int)
def wordB (c : UInt8) : Bool := ltrI (byteI c) || digI (byteI c)
def nameB (s : List UInt8) : Bool := decide (1 ≤ s.length ∧ s.length ≤ 16) && !digI (byteI (s.headD 0)) && s.all wordB

/-- A variable. -/
structure Vr where
  name : ByteArray
  lo : Int
  hi : Int
/-- A problem. -/
structure Mo where
  vars : List Vr
  cons : List Cn
  has : Bool
  goal : List (Int × Int)

def boundsB (lo hi : Int) : Bool := numB lo && numB hi && decide (lo ≤ hi ∧ hi - lo < 64)
def seenB (ahead : List Vr) (s : ByteArray) : Bool := ahead.any fun v => v.name.toList == s.toList
/-- A variable's fault, behind the others. -/
def varFault (v : Vr) (ahead : List Vr) : Int := if !nameB v.name.data.toList || seenB ahead v.name then 41 else if !boundsB v.lo v.hi then 42 else 0
def vFault (l : List Vr) (i : Nat) : Int := match l[i]? with | some v => varFault v (l.take i) | none => 0
def cFault (l : List Cn) (n : Int) (i : Nat) : Int := match l[i]? with | some c => fault c n | none => 0
def goalFault (m : Mo) : Int :=
  if m.has = false then (if 0 < m.goal.length then 48 else 0) else if fewB m.goal.length 64 then 47 else if !(m.goal.all fun t => plB m.vars.length t.2) then 44 else if !coefsB m.goal then 45 else 0
def firstBad (n : Nat) (f : Nat → Int) : Option Nat := (List.range n).find? fun i => f i != 0
/-- The first fault of a problem, and its place. -/
def check (m : Mo) : Int × Int :=
  if fewB m.vars.length 32 then (0, 40) else
  match firstBad m.vars.length (vFault m.vars) with
  | some i => ((i : Int), vFault m.vars i)
  | none =>
    if 64 < m.cons.length then ((m.vars.length : Int), 49) else
    match firstBad m.cons.length (cFault m.cons m.vars.length) with
    | some i => ((m.vars.length : Int) + (i : Int), cFault m.cons m.vars.length i)
    | none => if goalFault m = 0 then (0, 0) else ((m.vars.length : Int) + (m.cons.length : Int), goalFault m)

theorem firstBad_some {n : Nat} {f : Nat → Int} {i : Nat} (hi : i < n) (hb : f i ≠ 0) (h : ∀ j, j < i → f j = 0) : firstBad n f = some i := by
  unfold firstBad
  rw [List.find?_range_eq_some]
  exact ⟨by simpa using hb, by simpa using hi, fun j hj => by simpa using h j hj⟩
theorem firstBad_none {n : Nat} {f : Nat → Int} (h : ∀ j, j < n → f j = 0) : firstBad n f = none := by
  unfold firstBad
  rw [List.find?_eq_none]
  intro j hj
  simpa using h j (by simpa using hj)
theorem firstBad_none_iff {n : Nat} {f : Nat → Int} : firstBad n f = none → ∀ j, j < n → f j = 0 := by
  unfold firstBad
  rw [List.find?_eq_none]
  intro h j hj
  simpa using h j (by simpa using hj)
theorem vFault_get {l : List Vr} {i : Nat} (h : i < l.length) : vFault l i = varFault l[i] (l.take i) := by unfold vFault; rw [List.getElem?_eq_getElem h]
theorem cFault_get {l : List Cn} {n : Int} {i : Nat} (h : i < l.length) : cFault l n i = fault l[i] n := by unfold cFault; rw [List.getElem?_eq_getElem h]

/-- What a right problem has. -/
structure Right (m : Mo) : Prop where
  nv : 1 ≤ m.vars.length ∧ m.vars.length ≤ 32
  var : ∀ v ∈ m.vars, nameB v.name.data.toList = true ∧ boundsB v.lo v.hi = true
  nc : m.cons.length ≤ 64
  con : ∀ c ∈ m.cons, fault c m.vars.length = 0
  goal : goalFault m = 0
theorem right_of {m : Mo} (h : (check m).2 = 0) : Right m := by
  unfold check at h
  split at h
  · cases h
  rename_i h1
  have h1' : ¬ (m.vars.length < 1 ∨ 32 < m.vars.length) := by simpa [fewB] using h1
  split at h
  · rename_i i hi
    unfold firstBad at hi
    have := List.find?_some hi
    simp at this
    exact absurd h this
  rename_i h2
  split at h
  · cases h
  rename_i h3
  split at h
  · rename_i i hi
    unfold firstBad at hi
    have := List.find?_some hi
    simp at this
    exact absurd h this
  rename_i h4
  have h5 : goalFault m = 0 := by
    split at h
    · assumption
    · exact h
  refine ⟨by omega, fun v hv => ?_, by omega, fun c hc => ?_, h5⟩
  · obtain ⟨i, hi, rfl⟩ := List.getElem_of_mem hv
    have := firstBad_none_iff h2 i hi
    rw [vFault_get hi] at this
    unfold varFault at this
    split at this
    · cases this
    rename_i a
    split at this
    · cases this
    rename_i b
    simp at a b
    exact ⟨a.1, b⟩
  · obtain ⟨i, hi, rfl⟩ := List.getElem_of_mem hc
    have := firstBad_none_iff h4 i hi
    rwa [cFault_get hi] at this
theorem bounds_of {lo hi : Int} (h : boundsB lo hi = true) : (-1000000000 ≤ lo ∧ lo ≤ 1000000000) ∧ (-1000000000 ≤ hi ∧ hi ≤ 1000000000) ∧ lo ≤ hi ∧ hi - lo < 64 := by
  simp [boundsB, numB] at h
  omega
theorem goal_of {m : Mo} (h : goalFault m = 0) : (m.has = false → m.goal = []) ∧ m.goal.length ≤ 64 ∧ (∀ t ∈ m.goal, 0 ≤ t.2 ∧ t.2 < m.vars.length) ∧ ∀ t ∈ m.goal, t.1 ≠ 0 ∧ -1000000 ≤ t.1 ∧ t.1 ≤ 1000000 := by
  unfold goalFault at h
  split at h
  · split at h
    · cases h
    · rename_i h1 h2
      have : m.goal = [] := List.length_eq_zero_iff.1 (by omega)
      rw [this]; simp
  rename_i h0
  split at h
  · cases h
  rename_i h1
  split at h
  · cases h
  rename_i h2
  split at h
  · cases h
  rename_i h3
  simp only [fewB, decide_eq_true_eq] at h1
  simp only [plB, Bool.not_eq_true', Bool.not_eq_false, List.all_eq_true, decide_eq_true_eq] at h2
  simp only [coefsB, cfB, Bool.not_eq_true', Bool.not_eq_false, List.all_eq_true, decide_eq_true_eq] at h3
  exact ⟨fun h => absurd h h0, by omega, h2, h3⟩

/-- The product of the sizes. -/
def prod : List Vr → Int → Int → Option Int
  | [], _, n => some n
  | v :: l, most, n => if most.tdiv (v.hi - v.lo + 1) < n then none else prod l most (n * (v.hi - v.lo + 1))
def product (m : Mo) (most : Int) : Int × Bool :=
  if (check m).2 = 0 then (match prod m.vars most 1 with | some n => (n, true) | none => (0, false)) else (0, false)
def varAt (l : List Vr) (x : Int) : Vr := l.getD x.toNat ⟨⟨#[]⟩, 0, 0⟩
def lowS (l : List Vr) (t : List (Int × Int)) : Int := t.foldl (fun n t => n + (if 0 < t.1 then t.1 * (varAt l t.2).lo else t.1 * (varAt l t.2).hi)) 0
def topS (l : List Vr) (t : List (Int × Int)) : Int := t.foldl (fun n t => n + (if 0 < t.1 then t.1 * (varAt l t.2).hi else t.1 * (varAt l t.2).lo)) 0
def floor (m : Mo) : Int := if (check m).2 = 0 then lowS m.vars m.goal else 0
def ceil (m : Mo) : Int := if (check m).2 = 0 then topS m.vars m.goal else 0
def insideB : List Vr → List Int → Bool
  | [], [] => true
  | v :: l, x :: xs => decide (v.lo ≤ x ∧ x ≤ v.hi) && insideB l xs
  | _, _ => false
def solution (m : Mo) (vs : List Int) : Bool := decide ((check m).2 = 0) && insideB m.vars vs && m.cons.all fun c => hold c vs
def worth (m : Mo) (vs : List Int) : Int := if (check m).2 = 0 ∧ vs.length = m.vars.length ∧ vs.all numB = true then sum m.goal vs else 0
end Md
