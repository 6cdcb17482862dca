/-
  place; right, as the laws ask it.
-/
import Derived.Test.YtdfbmfikhccajaaDoorMdV5
namespace Go.Proofs.YtdfbmfikhccajaaDoor
open Go.RowKit

/-- A number from 0 to n - 1 out of any number. -/
def plc (k n : Int) : Int := if k.tmod n < 0 then k.tmod n + n else k.tmod n
theorem plc_in (k n : Int) (h1 : 0 < n) : 0 ≤ plc k n ∧ plc k n < n := by
  have a := Int.tmod_lt_of_pos k h1
  have b := Int.lt_tmod_of_pos k h1
  unfold plc
  split <;> omega

end Go.Proofs.YtdfbmfikhccajaaDoor
