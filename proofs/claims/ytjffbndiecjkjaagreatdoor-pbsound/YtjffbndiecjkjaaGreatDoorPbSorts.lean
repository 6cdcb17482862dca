/-
  Put together: PbSort, PbSorted.
-/
import Derived.Test.YtjffbndiecjkjaaGreatDoorPbSmall
import Derived.Shelf.GgSortFunc.RowK
import Derived.Test.YtjffbndiecjkjaaGreatDoorShelf
import Derived.Test.YtjffbndiecjkjaaGreatDoorBigSums
import Derived.Test.YtjffbndiecjkjaaGreatDoorCmp
import Derived.Deep.RegionWith
namespace Go.Proofs.YtjffbndiecjkjaaGreatDoor
open Go.Shelf Go.RowKit Go.Lib Go.Sort
open Bn (limbs)

theorem drew_two (W : World) (a b : Obj) : ((W.alloc a).alloc b).drew = grow (W.drewN 1) #[a, b] := by
  rw [alloc_eq_grow, alloc_eq_grow, grow_grow]; rfl

/-- A piece's three cells. -/
abbrev PcV := Int × Option Addr × Int
def encP (x : PcV) : List Value := [.int .i64 x.1, .pointer x.2.1, .int .i64 x.2.2]

set_option maxRecDepth 100000 in
set_option maxHeartbeats 1000000 in
theorem byVariable_any (x y : PcV) (W : World) : Calls Tryz.prog 68 #[.agg #[.int .i64 x.1, .pointer x.2.1, .int .i64 x.2.2], .agg #[.int .i64 y.1, .pointer y.2.1, .int .i64 y.2.2]] W fun e w' => e = .returned (.int .i64 (Lib.compareInt (vv x.2.2) (vv y.2.2))) ∧ ∃ q os', w' = grow (W.drewN q) os' := by
  obtain ⟨n1, q1, l1⟩ := x
  obtain ⟨n2, q2, l2⟩ := y
  have hx := fun W' => variable_vv l1 W'
  have hy := fun W' => variable_vv l2 W'
  have hcon := fun W' => Tryz.cmp_Compare_int (vv l1) (vv l2) W'
  have HX : Hid (∀ w, Calls Tryz.prog 48 #[.int .i64 l1] w fun e w' => e = .returned (.int .i64 (vv l1)) ∧ w' = w) := hx
  have HY : Hid (∀ w, Calls Tryz.prog 48 #[.int .i64 l2] w fun e w' => e = .returned (.int .i64 (vv l2)) ∧ w' = w) := hy
  have HC : Hid (∀ w, Calls Tryz.prog 53 #[.int .i64 (vv l1), .int .i64 (vv l2)] w fun e w' => e = .returned (.int .i64 (Lib.compareInt (vv l1) (vv l2))) ∧ w' = w) := hcon
  clear hx hy hcon
  simp only
  generalize Lib.compareInt (vv l1) (vv l2) = r at *
  generalize vv l1 = v1 at *
  generalize vv l2 = v2 at *
  go_enter Tryz.func68, Tryz.ntmps68
  go_wp2_with fail
  go_region_with (first
    | (go_at_call 48; refine calls_at (HX.out _) (by with_reducible rfl) (by with_reducible rfl) ?_; rintro e w' ⟨rfl, rfl⟩)
    | (go_at_call 48; refine calls_at (HY.out _) (by with_reducible rfl) (by with_reducible rfl) ?_; rintro e w' ⟨rfl, rfl⟩)
    | (go_at_call 53; refine calls_at (HC.out _) (by with_reducible rfl) (by with_reducible rfl) ?_; rintro e w' ⟨rfl, rfl⟩))
  all_goals
    go_wp2
    go_ret
    exact ⟨rfl, 1, _, drew_two W _ _⟩
end Go.Proofs.YtjffbndiecjkjaaGreatDoor

namespace Go.Proofs.YtjffbndiecjkjaaGreatDoor
open Go.Shelf Go.RowKit Go.Lib Go.Sort
open Bn (limbs)

/-- A block without limbs and Booleans: no number of the program's lies in it. -/
def Clean (w : World) (b : Nat) : Prop := ∃ cur e f, w.heap[b]? = some (.cells cur e f) ∧ ∀ u ∈ cur.toList, NoLimb u ∧ ∀ d, u ≠ .bool d
theorem BigAt.clean {w w' : World} {v : Value} {z : Int} {b : Nat} (h : BigAt w v z) (hc : Clean w b) (hg : w.grownBy w' (some b)) : BigAt w' v z := by
  obtain ⟨cur, e, f, hb, hk⟩ := hc
  refine h.off hg (fun g cur' e' f' hg' hc' => ?_) (fun g hg' => ?_)
  · injection hg' with hg'
    subst hg'
    rw [hb] at hc'
    injection hc' with hc'
    injection hc' with e1 e2 e3
    subst e1
    exact fun u hu => (hk u hu).1
  · injection hg' with hg'
    subst hg'
    refine ⟨cur, e, f, hb, fun d hd => ?_⟩
    exact (hk _ (by simpa using Array.mem_of_getElem? hd)).2 d rfl
theorem Clean.below {w w' : World} {b : Nat} (h : Clean w b) (hb : Below w.heap.size w w') : Clean w' b := by
  obtain ⟨cur, e, f, h1, h2⟩ := h
  exact ⟨cur, e, f, (hb.block b (Array.getElem?_eq_some_iff.1 h1).1).trans h1, h2⟩

/-- What the pieces' cells say. -/
def Say (w : World) (x : PcV) (p : Int × Int) : Prop := BigAt w (.agg #[.int .i64 x.1, .pointer x.2.1]) p.1 ∧ x.2.2 = p.2
def Says (w : World) (L : List PcV) (ps : List (Int × Int)) : Prop := L.length = ps.length ∧ ∀ i (h : i < L.length) (h' : i < ps.length), Say w L[i] ps[i]
theorem Says.mono {w w' : World} {L : List PcV} {ps : List (Int × Int)} (h : Says w L ps) (hm : ∀ v z, BigAt w v z → BigAt w' v z) : Says w' L ps :=
  ⟨h.1, fun i h1 h2 => ⟨hm _ _ (h.2 i h1 h2).1, (h.2 i h1 h2).2⟩⟩

/-- Of cells in another order, what they say in that order. -/
theorem Says.perm {w : World} {L L' : List PcV} {ps : List (Int × Int)} (h : Says w L ps) (hp : L'.Perm L) : ∃ ps', ps'.Perm ps ∧ Says w L' ps' := by
  induction hp generalizing ps with
  | nil =>
    have : ps = [] := List.eq_nil_of_length_eq_zero (by have := h.1; simpa using this.symm)
    subst this
    exact ⟨[], List.Perm.nil, h⟩
  | cons x hp ih =>
    cases ps with
    | nil => have := h.1; simp at this
    | cons p ps =>
      have h0 := h.2 0 (by simp) (by simp)
      obtain ⟨ps', h1, h2⟩ := ih (ps := ps) ⟨by have := h.1; simpa using this, fun i hi hi' => by
        have := h.2 (i + 1) (by simpa using hi) (by simpa using hi')
        simpa using this⟩
      refine ⟨p :: ps', h1.cons p, by simp [h2.1], fun i hi hi' => ?_⟩
      cases i with
      | zero => exact h0
      | succ i => exact h2.2 i (by simpa using hi) (by simpa using hi')
  | swap x y l =>
    match ps, h with
    | [], h => have := h.1; simp at this
    | [_], h => have := h.1; simp at this
    | p :: q :: ps, h =>
      refine ⟨q :: p :: ps, List.Perm.swap _ _ _, by simpa using h.1, fun i hi hi' => ?_⟩
      match i with
      | 0 => exact h.2 1 (by simp) (by simp)
      | 1 => exact h.2 0 (by simp) (by simp)
      | i + 2 => exact h.2 (i + 2) (by simpa using hi) (by simpa using hi')
  | trans _ _ ih1 ih2 =>
    obtain ⟨ps1, h1, h2⟩ := ih2 h
    obtain ⟨ps2, h3, h4⟩ := ih1 h2
    exact ⟨ps2, h3.trans h1, h4⟩

/-- In the order of the variables. -/
def Climbs (ps : List (Int × Int)) : Prop := ∀ i j (hi : i < ps.length) (hj : j < ps.length), i < j → ps[i].2.natAbs ≤ ps[j].2.natAbs

end Go.Proofs.YtjffbndiecjkjaaGreatDoor
