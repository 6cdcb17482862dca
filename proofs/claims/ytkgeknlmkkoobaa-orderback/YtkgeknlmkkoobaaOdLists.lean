/-
  Put together: OdMath, OdSums, OdRight.
-/
import Derived.Test.YtkgeknlmkkoobaaMdLists
namespace Od

/-- Numbers that follow one another as what they tell does. -/
structure Run where
  a : Int
  f : Int
  t : Int
def Run.size (r : Run) : Int := r.t - r.f + 1
/-- Within what a problem may have. -/
structure Run.Fit (r : Run) : Prop where
  a0 : 0 ≤ r.a
  a1 : r.a ≤ 1000000000000
  f0 : -1000000000000 ≤ r.f
  f1 : r.f ≤ 1000000000000
  t0 : -1000000000000 ≤ r.t
  t1 : r.t ≤ 1000000000000
  s0 : r.f ≤ r.t + 1
def Run.number (r : Run) (v : Int) : Int × Int := if v < r.f ∨ r.t < v then (0, 3) else (r.a + v - r.f + 1, 1)
def Run.told (r : Run) (n : Int) : Int × Bool := if n ≤ r.a ∨ r.a + (r.t - r.f + 1) < n then (0, false) else (r.f + n - r.a - 1, true)
def Run.atLeast (r : Run) (k : Int) : Int × Int := if k ≤ r.f - 1 then (0, 2) else r.number k
def Run.is (r : Run) (k : Int) : Int × Int := if r.t - r.f + 1 = 0 then (0, 0) else r.number k
def Run.pick (r : Run) (k : Int) : Int × Int := if (r.number k).2 = 1 then r.number k else (0, 0)

theorem number_out {r : Run} {v : Int} (h : v < r.f ∨ r.t < v) : r.number v = (0, 3) := if_pos h
theorem number_in {r : Run} {v : Int} (h1 : r.f ≤ v) (h2 : v ≤ r.t) : r.number v = (r.a + v - r.f + 1, 1) := if_neg (by omega)
theorem told_out {r : Run} {n : Int} (h : n ≤ r.a ∨ r.a + (r.t - r.f + 1) < n) : r.told n = (0, false) := if_pos h
theorem told_in {r : Run} {n : Int} (h1 : r.a < n) (h2 : n ≤ r.a + (r.t - r.f + 1)) : r.told n = (r.f + n - r.a - 1, true) := if_neg (by omega)
end Od

namespace Od

/-- What a right problem's variables have. -/
structure Good (vs : List Md.Vr) : Prop where
  n0 : 1 ≤ vs.length
  n1 : vs.length ≤ 32
  b : ∀ k (h : k < vs.length), -1000000000 ≤ vs[k].lo ∧ vs[k].hi ≤ 1000000000 ∧ vs[k].lo ≤ vs[k].hi ∧ vs[k].hi - vs[k].lo < 64
def aS (vs : List Md.Vr) : Nat → Int
  | 0 => 0
  | k + 1 => aS vs k + (match vs[k]? with | some v => v.hi - v.lo | none => 0)
theorem aS_next {vs : List Md.Vr} {k : Nat} (h : k < vs.length) : aS vs (k + 1) = aS vs k + (vs[k].hi - vs[k].lo) := by
  simp only [aS, List.getElem?_eq_getElem h]
theorem aS_bd {vs : List Md.Vr} (g : Good vs) : ∀ k, k ≤ vs.length → 0 ≤ aS vs k ∧ aS vs k ≤ 64 * (k : Int)
  | 0, _ => by simp [aS]
  | k + 1, h => by
    obtain ⟨h1, h2⟩ := aS_bd g k (by omega)
    obtain ⟨b1, b2, b3, b4⟩ := g.b k (by omega)
    rw [aS_next (by omega)]
    omega
/-- Does a constraint ask for [x is v]? -/
def askC (c : Md.Cn) (x : Nat) : Bool := (c.kind == 3 || c.kind == 9) && c.xs.any (fun y => y == (x : Int))
def asked (cs : List Md.Cn) (x : Nat) : Bool := cs.any fun c => askC c x
def pTo (cs : List Md.Cn) (v : Md.Vr) (x : Nat) : Int := if asked cs x = true then v.hi else v.lo - 1
def aP (vs : List Md.Vr) (cs : List Md.Cn) : Nat → Int
  | 0 => aS vs vs.length
  | k + 1 => aP vs cs k + (match vs[k]? with | some v => pTo cs v k - v.lo + 1 | none => 0)
theorem aP_next {vs : List Md.Vr} {cs : List Md.Cn} {k : Nat} (h : k < vs.length) : aP vs cs (k + 1) = aP vs cs k + (pTo cs vs[k] k - vs[k].lo + 1) := by
  simp only [aP, List.getElem?_eq_getElem h]
theorem pTo_bd {vs : List Md.Vr} (g : Good vs) (cs : List Md.Cn) (k : Nat) (h : k < vs.length) : vs[k].lo - 1 ≤ pTo cs vs[k] k ∧ pTo cs vs[k] k ≤ vs[k].hi := by
  obtain ⟨b1, b2, b3, b4⟩ := g.b k h
  unfold pTo
  split <;> omega
theorem aP_bd {vs : List Md.Vr} (g : Good vs) (cs : List Md.Cn) : ∀ k, k ≤ vs.length → aS vs vs.length ≤ aP vs cs k ∧ aP vs cs k ≤ 64 * (vs.length : Int) + 64 * (k : Int)
  | 0, _ => by
    have := aS_bd g vs.length (Nat.le_refl _)
    simp only [aP]
    omega
  | k + 1, h => by
    obtain ⟨h1, h2⟩ := aP_bd g cs k (by omega)
    obtain ⟨b1, b2, b3, b4⟩ := g.b k (by omega)
    obtain ⟨c1, c2⟩ := pTo_bd g cs k (by omega)
    rw [aP_next (by omega)]
    omega
/-- How many rows of a constraint have numbers. -/
def rN (c : Md.Cn) : Nat := if c.kind = 8 then c.rows.length else 0
def aK (vs : List Md.Vr) (cs : List Md.Cn) : Nat → Int
  | 0 => aP vs cs vs.length
  | k + 1 => aK vs cs k + (match cs[k]? with | some c => (rN c : Int) | none => 0)
theorem aK_next {vs : List Md.Vr} {cs : List Md.Cn} {k : Nat} (h : k < cs.length) : aK vs cs (k + 1) = aK vs cs k + (rN cs[k] : Int) := by
  simp only [aK, List.getElem?_eq_getElem h]
/-- What a right problem's constraints have. -/
structure GoodC (n : Nat) (cs : List Md.Cn) : Prop where
  n1 : cs.length ≤ 64
  r : ∀ k (h : k < cs.length), cs[k].rows.length ≤ 1000000
  x : ∀ k (h : k < cs.length), ∀ y ∈ cs[k].xs, 0 ≤ y ∧ y < (n : Int)
  t : ∀ k (h : k < cs.length), cs[k].kind = 8 → cs[k].xs.length ≤ 8 ∧ ∀ r ∈ cs[k].rows, r.length = cs[k].xs.length
  o : ∀ k (h : k < cs.length), cs[k].kind ≠ 8 → cs[k].rows = []
theorem aK_bd {vs : List Md.Vr} {cs : List Md.Cn} (g : Good vs) (gc : GoodC vs.length cs) : ∀ k, k ≤ cs.length → aP vs cs vs.length ≤ aK vs cs k ∧ aK vs cs k ≤ 10000 + 1000000 * (k : Int)
  | 0, _ => by
    have := aP_bd g cs vs.length (Nat.le_refl _)
    have := g.n1
    simp only [aK]
    omega
  | k + 1, h => by
    obtain ⟨h1, h2⟩ := aK_bd g gc k (by omega)
    have := gc.r k (by omega)
    have h3 : rN cs[k] ≤ 1000000 := by unfold rN; split <;> omega
    rw [aK_next (by omega)]
    omega
/-- A variable's numbers, a constraint's. -/
def stR (vs : List Md.Vr) (i : Nat) (v : Md.Vr) : Run := ⟨aS vs i, v.lo + 1, v.hi⟩
def ptR (vs : List Md.Vr) (cs : List Md.Cn) (i : Nat) (v : Md.Vr) : Run := ⟨aP vs cs i, v.lo, pTo cs v i⟩
def pkR (vs : List Md.Vr) (cs : List Md.Cn) (i : Nat) (c : Md.Cn) : Run := ⟨aK vs cs i, 0, (rN c : Int) - 1⟩
theorem stR_fit {vs : List Md.Vr} (g : Good vs) (i : Nat) (h : i < vs.length) : (stR vs i vs[i]).Fit := by
  obtain ⟨b1, b2, b3, b4⟩ := g.b i h
  have h1 := aS_bd g i (by omega)
  have := g.n1
  constructor <;> simp only [stR] <;> omega
theorem ptR_fit {vs : List Md.Vr} (g : Good vs) (cs : List Md.Cn) (i : Nat) (h : i < vs.length) : (ptR vs cs i vs[i]).Fit := by
  obtain ⟨b1, b2, b3, b4⟩ := g.b i h
  have h1 := aP_bd g cs i (by omega)
  have h2 := aS_bd g vs.length (Nat.le_refl _)
  have h3 := pTo_bd g cs i h
  have := g.n1
  constructor <;> simp only [ptR] <;> omega
theorem pkR_fit {vs : List Md.Vr} {cs : List Md.Cn} (g : Good vs) (gc : GoodC vs.length cs) (i : Nat) (h : i < cs.length) : (pkR vs cs i cs[i]).Fit := by
  have h0 := aK_bd g gc i (by omega)
  have h1 := aP_bd g cs vs.length (Nat.le_refl _)
  have h2 := aS_bd g vs.length (Nat.le_refl _)
  have := gc.n1
  have := gc.r i h
  have h3 : rN cs[i] ≤ 1000000 := by unfold rN; split <;> omega
  constructor <;> simp only [pkR] <;> omega
end Od

namespace Od
open Md
theorem fault_zero {c : Cn} {n : Int} (h : fault c n = 0) : (plainBad c || listBad c) = false ∧ manyBad c = false := by
  unfold fault at h
  split at h
  · cases h
  split at h
  · cases h
  rename_i h2
  split at h
  · cases h
  rename_i h3
  simp only [Bool.not_eq_true] at h2 h3
  exact ⟨h2, h3⟩
theorem good_of {m : Mo} (h : Right m) : Good m.vars := by
  refine ⟨h.nv.1, h.nv.2, fun k hk => ?_⟩
  obtain ⟨⟨b1, _⟩, ⟨_, b4⟩, b5, b6⟩ := bounds_of (h.var _ (List.getElem_mem hk)).2
  exact ⟨b1, b4, b5, b6⟩
theorem goodC_of {m : Mo} (h : Right m) : GoodC m.vars.length m.cons := by
  refine ⟨h.nc, fun k hk => ?_, fun k hk => (fit_of (h.con _ (List.getElem_mem hk))).xs, fun k hk h8 => ?_, fun k hk h8 => ?_⟩
  · have := (fit_of (h.con _ (List.getElem_mem hk))).rl
    omega
  · refine ⟨?_, (fit_of (h.con _ (List.getElem_mem hk))).rr⟩
    have h3 := (fault_zero (h.con _ (List.getElem_mem hk))).2
    simp only [manyBad, h8, mostXs, fXs, Bool.or_eq_false_iff] at h3
    obtain ⟨⟨⟨⟨_, h3⟩, _⟩, _⟩, _⟩ := h3
    have : ¬ 8 < m.cons[k].xs.length := fun e => by simp [fewB, e] at h3
    omega
  · have h2 := (fault_zero (h.con _ (List.getElem_mem hk))).1
    simp only [listBad, Bool.or_eq_false_iff] at h2
    obtain ⟨_, _, h2⟩ := h2
    have e : fRows m.cons[k].kind = false := by simp [fRows, h8]
    rw [e] at h2
    simp at h2
    exact h2
end Od
