/-
  Put together: MdLay, MdCon0.
-/
import Derived.Test.YthohnmplbjhjaaaGreatDoorMdRow
import Derived.Test.YthohnmplbjhjaaaGreatDoorJ05
import Derived.Laws.OwnMore
namespace Go.Proofs.YthohnmplbjhjaaaGreatDoor
open Go.RowKit
theorem y1k {P:Program} {e:TypeId} {z:Value} {size bytes:Nat} (h:(P.info? e).map (fun i=>(i.zero,i.size,i.bytes))=some (some z,size,bytes)):∃ i0,P.info? e=some i0/\i0.zero=some z/\i0.size=size/\i0.bytes=bytes:=by
 cases hh:P.info? e with
 | none=>rw [hh] at h;cases h
 | some i0=>rw [hh] at h;simp at h;exact ⟨i0,rfl,h.1,h.2.1,h.2.2⟩
theorem y1l:Tryz.prog.underlying 58=some (.slice 3):=by kernel_rfl
theorem y1m:Tryz.prog.underlying 59=some (.slice 58):=by kernel_rfl
end Go.Proofs.YthohnmplbjhjaaaGreatDoor

namespace Go.Proofs.YthohnmplbjhjaaaGreatDoor
open Go.RowKit
theorem Yp {w:World} {N:Nat} {a0 a1 a2 a3 a4 a5 a6 a7 a8 a9:Value} {t:TypeId} (h:w.heap[N]?=some (.cells #[a0,a1,a2,a3,a4,a5,a6,a7,a8,a9] t (0,0))) :
  (w.cell? ⟨N,0,none⟩=some a0/\w.cell? ⟨N,1,none⟩=some a1/\w.cell? ⟨N,2,none⟩=some a2/\w.cell? ⟨N,3,none⟩=some a3/\w.cell? ⟨N,4,none⟩=some a4/\w.cell? ⟨N,5,none⟩=some a5/\w.cell? ⟨N,6,none⟩=some a6/\w.cell? ⟨N,7,none⟩=some a7/\w.cell? ⟨N,8,none⟩=some a8/\w.cell? ⟨N,9,none⟩=some a9)/\∀ j,w.frozen? ⟨N,j,none⟩=false:=by
 refine ⟨⟨?_,?_,?_,?_,?_,?_,?_,?_,?_,?_⟩,fun j=>?_⟩ <;> simp [World.cell?,World.frozen?,h]
end Go.Proofs.YthohnmplbjhjaaaGreatDoor
