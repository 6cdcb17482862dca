import Derived.Test.YtjnckfchgcmmpaaGreatDoorJ18
namespace Go.Proofs.YtjnckfchgcmmpaaGreatDoor
open Go.RowKit
theorem box10 {w:World} {N:Nat} {a0 a1 a2 a3 a4 a5 a6 a7 a8 a9:Value} {t:TypeId} (h:w.heap[N]?=some (.cells #[a0,a1,a2,a3,a4,a5,a6,a7,a8,a9] t (0,0))) :
    (w.cell? ⟨N,0,none⟩=some a0/\w.cell? ⟨N,1,none⟩=some a1/\w.cell? ⟨N,2,none⟩=some a2/\w.cell? ⟨N,3,none⟩=some a3/\w.cell? ⟨N,4,none⟩=some a4/\w.cell? ⟨N,5,none⟩=some a5/\w.cell? ⟨N,6,none⟩=some a6/\w.cell? ⟨N,7,none⟩=some a7/\w.cell? ⟨N,8,none⟩=some a8/\w.cell? ⟨N,9,none⟩=some a9)/\∀ j,w.frozen? ⟨N,j,none⟩=false:=by
  refine ⟨⟨?_,?_,?_,?_,?_,?_,?_,?_,?_,?_⟩,fun j=>?_⟩ <;> simp [World.cell?,World.frozen?,h]
theorem one_next {w' w'':World} (hb:Below w'.heap.size w' w'') {a:Addr} {u:Value} (h:w'.cell? a=some u):w''.cell? a=some u:=by
  refine (hb.cell (p:=a) ?_).trans h;rcases Nat.lt_or_ge a.block w'.heap.size with hl | hl
  · exact hl
  · unfold World.cell? at h
    rw [Array.getElem?_eq_none hl] at h
    cases h
end Go.Proofs.YtjnckfchgcmmpaaGreatDoor
