/-
  The small functions of the document's side.
-/
import Derived.Test.YtkgeknlmkkoobaaMdSmall
namespace Go.Proofs.Ytkgeknlmkkoobaa
open Go.RowKit
/-- The mark of a place. -/
def lotI (k : Nat) : Int := if k % 2 = 0 then -7701 else -7702
end Go.Proofs.Ytkgeknlmkkoobaa
