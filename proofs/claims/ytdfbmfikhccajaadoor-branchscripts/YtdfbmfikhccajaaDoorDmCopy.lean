/-
  Package dom: Copy, Same of stores that say the same.
-/
import Derived.Test.YtdfbmfikhccajaaDoorDmMark
import Derived.Test.YtdfbmfikhccajaaDoorMdRegU
import Derived.Test.YtdfbmfikhccajaaDoorMdSrc
import Derived.Lib.SliceRun
namespace Go.Proofs.YtdfbmfikhccajaaDoor
open Go.RowKit

theorem bl_alloc {W a : World} (h : Below W.heap.size W a) (o : Obj) : Below W.heap.size W (a.alloc o) := h.alloc h.size o
/-- What Clone leaves. -/
def ClOut (L : List Dm) (w : World) (e : Ending) (w' : World) : Prop := ∃ v, e = .returned v ∧ w'.ownsRow w.heap.size 61 3 v L.length (dms L) ∧ Below w.heap.size w w'
/-- What Copy leaves: a store of its own. -/
def CopyOut (s : St) (w : World) (e : Ending) (w' : World) : Prop := ∃ p nv mv, e = .returned (.pointer (some ⟨p, 0, none⟩)) ∧ StAt w.heap.size w' p nv mv s ∧ Below w.heap.size w w'
end Go.Proofs.YtdfbmfikhccajaaDoor
