import Derived.OrdersHeld
namespace Go.Proofs.YthohnmplbjhjaaaGreatDoor
theorem qa {α : Type} (l : List α) (i : Nat) (a : α) : l.toArray.setIfInBounds i a = (l.set i a).toArray := List.setIfInBounds_toArray ..
theorem qb {α : Type} (l : List α) (a b : α) : (a :: l).set 0 b = b :: l := rfl
theorem qc {α : Type} (l : List α) (a b : α) (n : Nat) : (a :: l).set (n + 1) b = a :: l.set n b := rfl
end Go.Proofs.YthohnmplbjhjaaaGreatDoor
