/-
  A problem's text, as plain lists.
-/
import Derived.Test.YtjanpglnahagdaaGreatDoorJ01
import Derived.Lib.ItoaLen
namespace Md
open Go.Lib (itoa)

/-- A variable's name. -/
def nm (l : List Vr) (x : Int) : List UInt8 := (varAt l x).name.data.toList
def namesT (l : List Vr) (xs : List Int) : List UInt8 := xs.flatMap fun x => 32 :: nm l x
def numsT (xs : List Int) : List UInt8 := xs.flatMap fun n => 32 :: itoa n
def sumT (l : List Vr) (t : List (Int × Int)) : List UInt8 := t.flatMap fun t => 32 :: (itoa t.1 ++ 32 :: nm l t.2)
def rowsT (r : List (List Int)) : List UInt8 := r.flatMap fun r => 32 :: 58 :: numsT r
def opT (op : Int) : List UInt8 := if op = 1 then [60, 61] else if op = 2 then [61] else if op = 3 then [62, 61] else []
/-- What stands behind a constraint's word. -/
def restT (l : List Vr) (c : Cn) : List UInt8 :=
  if c.kind = 1 then 32 :: opT c.op ++ (32 :: itoa c.k ++ sumT l c.terms)
  else if c.kind = 2 then 32 :: nm l c.x ++ (32 :: nm l c.y ++ 32 :: itoa c.k)
  else if c.kind = 3 then namesT l c.xs
  else if c.kind = 4 then 32 :: nm l c.x ++ (32 :: nm l c.y ++ numsT c.table)
  else if c.kind = 5 ∨ c.kind = 6 then 32 :: nm l c.y ++ namesT l c.xs
  else if c.kind = 7 then 32 :: nm l c.x ++ (32 :: 60 :: 61 :: (32 :: itoa c.k ++ sumT l c.terms))
  else if c.kind = 8 then namesT l c.xs ++ rowsT c.rows
  else 32 :: opT c.op ++ (32 :: itoa c.k ++ (32 :: itoa c.v ++ namesT l c.xs))
def wordT (k : Int) : List UInt8 :=
  if k = 1 then [108, 105, 110] else if k = 2 then [110, 101] else if k = 3 then [97, 108, 108, 100, 105, 102, 102] else if k = 4 then [101, 108, 101, 109, 101, 110, 116]
  else if k = 5 then [109, 97, 120] else if k = 6 then [109, 105, 110] else if k = 7 then [114, 101, 105, 102] else if k = 8 then [116, 97, 98, 108, 101] else [99, 111, 117, 110, 116]
def conT (l : List Vr) (c : Cn) : List UInt8 := wordT c.kind ++ restT l c
def varT (v : Vr) : List UInt8 := 118 :: 97 :: 114 :: 32 :: (v.name.data.toList ++ (32 :: itoa v.lo ++ 32 :: itoa v.hi))
def varsT (l : List Vr) : List UInt8 := l.flatMap fun v => varT v ++ [10]
def consT (l : List Vr) (c : List Cn) : List UInt8 := c.flatMap fun c => conT l c ++ [10]
def goalT (m : Mo) : List UInt8 := if m.has then 109 :: 105 :: 110 :: 105 :: 109 :: 105 :: 122 :: 101 :: (sumT m.vars m.goal ++ [10]) else []
/-- The text. -/
def textT (m : Mo) : List UInt8 := varsT m.vars ++ consT m.vars m.cons ++ goalT m
/-- What Print answers. -/
def print (m : Mo) : List UInt8 × Int := if (check m).2 = 0 then (if 65536 < (textT m).length then ([], 50) else (textT m, 0)) else ([], (check m).2)

theorem flatMap_take {α β : Type} (f : α → List β) (l : List α) (k : Nat) (h : k < l.length) : (l.take (k + 1)).flatMap f = (l.take k).flatMap f ++ f l[k] := by
  rw [List.take_succ_eq_append_getElem h, List.flatMap_append]
  simp
theorem flatMap_len {α β : Type} (f : α → List β) (n : Nat) : ∀ (l : List α), (∀ x ∈ l, (f x).length ≤ n) → (l.flatMap f).length ≤ n * l.length
  | [], _ => by simp
  | x :: l, h => by
    have h1 := h x (by simp)
    have h2 := flatMap_len f n l (fun y hy => h y (by simp [hy]))
    rw [List.flatMap_cons, List.length_append, List.length_cons, Nat.mul_succ]
    omega
theorem flatMap_take_len {α β : Type} (f : α → List β) (n : Nat) (l : List α) (k : Nat) (h : ∀ x ∈ l, (f x).length ≤ n) : ((l.take k).flatMap f).length ≤ n * l.length :=
  Nat.le_trans (flatMap_len f n (l.take k) (fun x hx => h x (List.mem_of_mem_take hx))) (Nat.mul_le_mul_left n (by rw [List.length_take]; omega))
theorem itoa_len {n : Int} (h : -1000000000 ≤ n ∧ n ≤ 1000000000) : (itoa n).length ≤ 21 := Go.Lib.itoa_length_le n (by omega) (by omega)
theorem name_len {s : List UInt8} (h : nameB s = true) : s.length ≤ 16 := by
  simp [nameB] at h
  omega
end Md
