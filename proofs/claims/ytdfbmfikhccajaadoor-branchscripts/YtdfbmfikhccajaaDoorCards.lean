/-
  DERIVED. GIVEN WITH THE SEED: THE CARDS: each row of YtdfbmfikhccajaaDoorRows.lean that lists a variable, with what it lists TIED to the program's text (the seventh form; the later family's looks); each row that meets fmt, with fmt's text TOLD by the authors' own Lean function (tested against real Go, not proved from fmt's source: count such statements apart). THE CARD IS WHAT COUNTS. Prove the row's statement (the work); the ties are given (YtdfbmfikhccajaaDoorTie.lean); close each card by the builder's one call (the guide's Derived/Test/ToyasCard.lean, 'card_holds'). Laid BY PROGRAM, IN A SANDBOX (cutbox-door.mjs). By AI agents, Wed Nov 11 2026. No macro, syntax, notation, axiom, sorry.
-/
import Derived.Test.YtdfbmfikhccajaaDoorRows
import GoSem.ClaimSeven
namespace Go.Proofs.YtdfbmfikhccajaaDoor
namespace Rows

/-- THE TIED CARD OF 'hallmarklaw17.BranchScripts'. -/
def branchScriptsCard : Claim7 := { stood := { row := branchScriptsRow, standIns := [], harness := (true, "c1959c27ac24bd5a44aa9991fefbc5332e01720549c3482e00bfa94c0ee878d0"), looks := false }, kinds := [], alts := [], laidByText := true, laidKinds := [.data], laidTests := true, laidLooks := .later }
def BranchScriptsCardSaid : Prop := Claim7.holds Tryd.pinned (.plain (OpenSpec.ofChange branchScriptsSpec)) branchScriptsCard

/-- THE SECOND FORM's CARD OF 'hallmarklaw17.BranchScripts'. -/
def branchScriptsUptoCard : Claim7 := { stood := { row := branchScriptsUptoRow, standIns := [], harness := (true, "c1959c27ac24bd5a44aa9991fefbc5332e01720549c3482e00bfa94c0ee878d0"), looks := false }, kinds := [], alts := [], laidByText := true, laidKinds := [.data], laidTests := true, laidLooks := .later }
def BranchScriptsUptoCardSaid : Prop := Claim7.holds Tryd.pinned (.plain (OpenSpec.upto branchScriptsSpec)) branchScriptsUptoCard
end Rows
end Go.Proofs.YtdfbmfikhccajaaDoor
