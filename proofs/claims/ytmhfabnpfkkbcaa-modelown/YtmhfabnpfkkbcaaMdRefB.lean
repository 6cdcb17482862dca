/-
  The document's side of package model: places, rows, foreign.
-/
import Derived.Test.YtmhfabnpfkkbcaaMdRefA
namespace Go.Proofs.Ytmhfabnpfkkbcaa
open Go.RowKit

end Go.Proofs.Ytmhfabnpfkkbcaa
