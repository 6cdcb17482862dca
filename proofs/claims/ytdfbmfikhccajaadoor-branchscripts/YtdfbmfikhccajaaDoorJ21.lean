/-
  Put together: MdRefA, MdRefB.
-/
import Derived.Test.YtdfbmfikhccajaaDoorMdHoldsA
namespace Go.Proofs.YtdfbmfikhccajaaDoor
open Go.RowKit

/-- What terms answers. -/
def termsE (l : List (Int × Int)) (n : Int) : Int := if (l.all fun t => Md.plB n t.2) = true then (if Md.coefsB l = true then 0 else 45) else 44

end Go.Proofs.YtdfbmfikhccajaaDoor

namespace Go.Proofs.YtdfbmfikhccajaaDoor
open Go.RowKit

end Go.Proofs.YtdfbmfikhccajaaDoor
