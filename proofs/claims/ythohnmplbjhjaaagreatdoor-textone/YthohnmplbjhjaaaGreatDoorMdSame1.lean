import Derived.Test.YthohnmplbjhjaaaGreatDoorJ20
import Derived.Test.YthohnmplbjhjaaaGreatDoorJ23
import Derived.WalkSmall
import Derived.Test.YthohnmplbjhjaaaGreatDoorJ24
import Derived.Deep.RegionHeld3
namespace Go.Proofs.YthohnmplbjhjaaaGreatDoor
open Go.RowKit
theorem zS {w' w'':World} (hb:Below w'.heap.size w' w'') {a:Addr} {u:Value} (h:w'.cell? a=some u):w''.cell? a=some u:=by
 refine (hb.cell (p:=a) ?_).trans h
 rcases Nat.lt_or_ge a.block w'.heap.size with hl | hl
 ·exact hl
 ·unfold World.cell? at h
  rw [Array.getElem?_eq_none hl] at h
  cases h
end Go.Proofs.YthohnmplbjhjaaaGreatDoor
