/-
  The worth lies between the floor and the ceiling; both are reached.
-/
import Derived.Test.YtmhfabnpfkkbcaaMdVMath
namespace Md

theorem fold_le {α : Type} (f g : α → Int) : ∀ (l : List α) (a b : Int), a ≤ b → (∀ x ∈ l, f x ≤ g x) → l.foldl (fun n t => n + f t) a ≤ l.foldl (fun n t => n + g t) b
  | [], _, _, h, _ => h
  | x :: l, a, b, h, hx => fold_le f g l (a + f x) (b + g x) (Int.add_le_add h (hx x List.mem_cons_self)) fun y hy => hx y (List.mem_cons_of_mem _ hy)
theorem fold_same {α : Type} (f g : α → Int) (l : List α) (a : Int) (h : ∀ x ∈ l, f x = g x) : l.foldl (fun n t => n + f t) a = l.foldl (fun n t => n + g t) a :=
  Int.le_antisymm (fold_le f g l a a (Int.le_refl _) fun x hx => Int.le_of_eq (h x hx)) (fold_le g f l a a (Int.le_refl _) fun x hx => Int.le_of_eq (h x hx).symm)

/-- Values within the bounds. -/
def Within (l : List Vr) (vs : List Int) : Prop := vs.length = l.length ∧ ∀ x : Int, 0 ≤ x → x < l.length → (varAt l x).lo ≤ val vs x ∧ val vs x ≤ (varAt l x).hi

theorem term_between {c lo hi v : Int} (h1 : lo ≤ v) (h2 : v ≤ hi) : (if 0 < c then c * lo else c * hi) ≤ c * v ∧ c * v ≤ (if 0 < c then c * hi else c * lo) := by
  split
  · rename_i h
    exact ⟨Int.mul_le_mul_of_nonneg_left h1 (Int.le_of_lt h), Int.mul_le_mul_of_nonneg_left h2 (Int.le_of_lt h)⟩
  · rename_i h
    exact ⟨Int.mul_le_mul_of_nonpos_left (Int.not_lt.1 h) h2, Int.mul_le_mul_of_nonpos_left (Int.not_lt.1 h) h1⟩

theorem sum_between {l : List Vr} {t : List (Int × Int)} {vs : List Int} (hW : Within l vs) (hg : ∀ x ∈ t, 0 ≤ x.2 ∧ x.2 < (l.length : Int)) : lowS l t ≤ sum t vs ∧ sum t vs ≤ topS l t := by
  have hh : ∀ x ∈ t, (if 0 < x.1 then x.1 * (varAt l x.2).lo else x.1 * (varAt l x.2).hi) ≤ x.1 * val vs x.2 ∧ x.1 * val vs x.2 ≤ (if 0 < x.1 then x.1 * (varAt l x.2).hi else x.1 * (varAt l x.2).lo) := fun x hx =>
    term_between (hW.2 x.2 (hg x hx).1 (hg x hx).2).1 (hW.2 x.2 (hg x hx).1 (hg x hx).2).2
  exact ⟨fold_le (fun x : Int × Int => if 0 < x.1 then x.1 * (varAt l x.2).lo else x.1 * (varAt l x.2).hi) (fun x => x.1 * val vs x.2) t 0 0 (Int.le_refl _) fun x hx => (hh x hx).1,
    fold_le (fun x : Int × Int => x.1 * val vs x.2) (fun x => if 0 < x.1 then x.1 * (varAt l x.2).hi else x.1 * (varAt l x.2).lo) t 0 0 (Int.le_refl _) fun x hx => (hh x hx).2⟩

theorem low_reached {l : List Vr} {t : List (Int × Int)} {vs : List Int} (h : ∀ x ∈ t, val vs x.2 = if x.1 < 0 then (varAt l x.2).hi else (varAt l x.2).lo) : sum t vs = lowS l t :=
  fold_same (fun x : Int × Int => x.1 * val vs x.2) (fun x => if 0 < x.1 then x.1 * (varAt l x.2).lo else x.1 * (varAt l x.2).hi) t 0 fun x hx => by
    show x.1 * val vs x.2 = if 0 < x.1 then x.1 * (varAt l x.2).lo else x.1 * (varAt l x.2).hi
    rw [h x hx]
    by_cases h1 : x.1 < 0
    · rw [if_pos h1, if_neg (by omega)]
    · rw [if_neg h1]
      by_cases h2 : 0 < x.1
      · rw [if_pos h2]
      · rw [if_neg h2, show x.1 = 0 from by omega]; simp
theorem top_reached {l : List Vr} {t : List (Int × Int)} {vs : List Int} (h : ∀ x ∈ t, val vs x.2 = if x.1 < 0 then (varAt l x.2).lo else (varAt l x.2).hi) : sum t vs = topS l t :=
  fold_same (fun x : Int × Int => x.1 * val vs x.2) (fun x => if 0 < x.1 then x.1 * (varAt l x.2).hi else x.1 * (varAt l x.2).lo) t 0 fun x hx => by
    show x.1 * val vs x.2 = if 0 < x.1 then x.1 * (varAt l x.2).hi else x.1 * (varAt l x.2).lo
    rw [h x hx]
    by_cases h1 : x.1 < 0
    · rw [if_pos h1, if_neg (by omega)]
    · rw [if_neg h1]
      by_cases h2 : 0 < x.1
      · rw [if_pos h2]
      · rw [if_neg h2, show x.1 = 0 from by omega]; simp
end Md
