/-
  DERIVED. GIVEN WITH THE SEED: THE CARDS: each row of YtakdboddbgihpaaDoorRows.lean that lists a variable, with what it lists TIED to the program's text (the seventh form; the later family's looks); each row that meets fmt, with fmt's text TOLD by the authors' own Lean function (tested against real Go, not proved from fmt's source: count such statements apart). THE CARD IS WHAT COUNTS. Prove the row's statement (the work); the ties are given (YtakdboddbgihpaaDoorTie.lean); close each card by the builder's one call (the guide's Derived/Test/ToyasCard.lean, 'card_holds'). Laid BY PROGRAM, IN A SANDBOX (cutbox-door.mjs). By AI agents, Wed Nov 11 2026. No macro, syntax, notation, axiom, sorry.
-/
import Derived.Test.YtakdboddbgihpaaDoorRows
import GoSem.ClaimSeven
namespace Go.Proofs.YtakdboddbgihpaaDoor
namespace Rows

/-- THE TIED CARD OF 'hallmarklaw11.DomOrder'. -/
def domOrderCard : Claim7 := { stood := { row := domOrderRow, standIns := [], harness := (true, "c4ada1e2e98d00f0d684dfdd330528b3691d4cd80cbedc66e1ca0a01b2cd245b"), looks := false }, kinds := [], alts := [], laidByText := true, laidKinds := [.data], laidTests := true, laidLooks := .later }
def DomOrderCardSaid : Prop := Claim7.holds Tryd.pinned (.plain (OpenSpec.ofChange domOrderSpec)) domOrderCard

/-- THE TIED CARD OF 'hallmarklaw11.DomBack'. -/
def domBackCard : Claim7 := { stood := { row := domBackRow, standIns := [], harness := (true, "c4ada1e2e98d00f0d684dfdd330528b3691d4cd80cbedc66e1ca0a01b2cd245b"), looks := false }, kinds := [], alts := [], laidByText := true, laidKinds := [.data], laidTests := true, laidLooks := .later }
def DomBackCardSaid : Prop := Claim7.holds Tryd.pinned (.plain (OpenSpec.ofChange domBackSpec)) domBackCard

/-- THE SECOND FORM's CARD OF 'hallmarklaw11.DomOrder'. -/
def domOrderUptoCard : Claim7 := { stood := { row := domOrderUptoRow, standIns := [], harness := (true, "c4ada1e2e98d00f0d684dfdd330528b3691d4cd80cbedc66e1ca0a01b2cd245b"), looks := false }, kinds := [], alts := [], laidByText := true, laidKinds := [.data], laidTests := true, laidLooks := .later }
def DomOrderUptoCardSaid : Prop := Claim7.holds Tryd.pinned (.plain (OpenSpec.upto domOrderSpec)) domOrderUptoCard

/-- THE SECOND FORM's CARD OF 'hallmarklaw11.DomBack'. -/
def domBackUptoCard : Claim7 := { stood := { row := domBackUptoRow, standIns := [], harness := (true, "c4ada1e2e98d00f0d684dfdd330528b3691d4cd80cbedc66e1ca0a01b2cd245b"), looks := false }, kinds := [], alts := [], laidByText := true, laidKinds := [.data], laidTests := true, laidLooks := .later }
def DomBackUptoCardSaid : Prop := Claim7.holds Tryd.pinned (.plain (OpenSpec.upto domBackSpec)) domBackUptoCard
end Rows
end Go.Proofs.YtakdboddbgihpaaDoor
