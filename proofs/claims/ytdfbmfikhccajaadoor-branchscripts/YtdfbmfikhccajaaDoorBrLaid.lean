/-
  The table that the rows list.
-/
import Derived.Test.YtdfbmfikhccajaaDoorRows
import Derived.Test.YtdfbmfikhccajaaDoorCards
import Derived.Test.YtdfbmfikhccajaaDoorTie
import Derived.Test.YtdfbmfikhccajaaDoorMdOpenM
import Derived.Test.YtdfbmfikhccajaaDoorDmLow
import Derived.ProofKit
import Derived.OpenShut
import Derived.LaidMore
import Derived.LaidSub
import Derived.Lay
import Derived.Stop.Joined
import Derived.SevenTiedAt
namespace Go.Proofs.YtdfbmfikhccajaaDoor
open Go.ChangeShapes Go.WideShapes Go.ChangeAt Go.RowKit Go.Deep

theorem laidOut : laidOutB Tryd.prog = true := by kernel_rfl
theorem own : ownKnob Tryd.prog.godebug = none := by kernel_rfl

/-- The table that the row lists. -/
def laid1 : List (String × DataW Unit) := [("math/bits.deBruijn32tab", Rows.laid_math_bits_deBruijn32tab)]
theorem deB_laid : (Rows.laid_math_bits_deBruijn32tab : DataW Unit) = .agg (deB.map fun z => .lit (.int .u8 z)) := by kernel_rfl
theorem und109 : Tryd.prog.underlying 109 = some (.array 32 5) := by kernel_rfl

theorem tz_of_laid {W : World} (h : laidMetH Tryd.prog laid1 W) : Tz W ∧ 0 < W.heap.size := by
  rw [MakeChecks.laidMetH_plain _ _ _ (by kernel_rfl)] at h
  obtain ⟨ps, ⟨g, t, cs, fuel, p, q, hg, ht, hv, hd, _, _⟩, _, _⟩ := h
  obtain rfl := Option.some.inj ((show Tryd.prog.globalNamed "math/bits.deBruijn32tab" = some 0 by kernel_rfl).symm.trans hg)
  obtain rfl := Option.some.inj ((show (Tryd.prog.globals[0]?).map (·.type) = some 109 by kernel_rfl).symm.trans ht)
  obtain ⟨xs, m, _, ex, _, hl, hel⟩ := DataW.trod_array und109 hd
  have c5 : Tryd.prog.cellsOf 5 = 1 := by kernel_rfl
  have e3 : (xs.map (·.1)) = deB.map (fun z => .lit (.int .u8 z)) := (DataW.agg.inj (deB_laid.symm.trans (Prod.mk.inj ex).1)).symm
  have hT : Tz W := fun r hr => by
    have hE := hel r hr
    rw [c5, Nat.mul_one, List.getElem?_eq_getElem (by omega)] at hE
    obtain ⟨n, e1, e2, _⟩ := DataW.trod_int Tryd.underlying5 hE
    have hq : (deB.map (fun z => (.lit (.int .u8 z) : DataW Unit)))[r]? = some (.lit (.int .u8 (deB.getD r 0))) := by
      have hr2 : r < deB.length := hr
      rw [List.getElem?_map, List.getElem?_eq_getElem hr2, List.getD_eq_getElem?_getD, List.getElem?_eq_getElem hr2]
      rfl
    have e4 : (xs.map (·.1))[r]? = some (.lit (.int .u8 (deB.getD r 0))) := by rw [e3]; exact hq
    rw [List.getElem?_map, List.getElem?_eq_getElem (by omega : r < xs.length), e2] at e4
    have hs : n = deB.getD r 0 := by
      simp only [Option.map_some, Option.some.injEq, DataW.lit.injEq, Lit.int.injEq, true_and] at e4
      exact e4
    rw [World.var?_cell hg hv r, ← hs]
    have : cs.toList[r]? = some (.int .u8 n) := by
      have h0 : ((cs.toList.drop r).take 1)[0]? = some (.int .u8 n) := by rw [e1]; rfl
      simpa using h0
    simpa using this
  refine ⟨hT, ?_⟩
  exact World.block_lt_of_cell? W ⟨0, 0, none⟩ (hT 0 (by decide))

end Go.Proofs.YtdfbmfikhccajaaDoor
