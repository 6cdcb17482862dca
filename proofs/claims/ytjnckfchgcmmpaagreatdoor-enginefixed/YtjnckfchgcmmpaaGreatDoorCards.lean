/-
  DERIVED. GIVEN WITH THE SEED: THE CARDS: each row of YtjnckfchgcmmpaaGreatDoorRows.lean that lists a variable, with what it lists TIED to the program's text (the seventh form; the later family's looks); each row that meets fmt, with fmt's text TOLD by the authors' own Lean function (tested against real Go, not proved from fmt's source: count such statements apart). THE CARD IS WHAT COUNTS. Prove the row's statement (the work); the ties are given (YtjnckfchgcmmpaaGreatDoorTie.lean); close each card by the builder's one call (the guide's Derived/Test/ToyasCard.lean, 'card_holds'). Laid BY PROGRAM, IN A SANDBOX (cutbox-door.mjs). By AI agents, Wed Nov 11 2026. No macro, syntax, notation, axiom, sorry.
-/
import Derived.Test.YtjnckfchgcmmpaaGreatDoorRows
import GoSem.ClaimSeven
namespace Go.Proofs.YtjnckfchgcmmpaaGreatDoor
namespace Rows

/-- THE TIED CARD OF 'hallmarklaw14.EngineFixed'. -/
def engineFixedCard : Claim7 := { stood := { row := engineFixedRow, standIns := [], harness := (true, "4bda355bfcfb765eb69f78b40504bda5f5391139e84ebe3912d1ac36c2ddf4bc"), looks := false }, kinds := [], alts := [], laidByText := true, laidKinds := [.data], laidTests := true, laidLooks := .later }
def EngineFixedCardSaid : Prop := Claim7.holds Tryz.pinned (.plain (OpenSpec.ofChange engineFixedSpec)) engineFixedCard

/-- THE SECOND FORM's CARD OF 'hallmarklaw14.EngineFixed'. -/
def engineFixedUptoCard : Claim7 := { stood := { row := engineFixedUptoRow, standIns := [], harness := (true, "4bda355bfcfb765eb69f78b40504bda5f5391139e84ebe3912d1ac36c2ddf4bc"), looks := false }, kinds := [], alts := [], laidByText := true, laidKinds := [.data], laidTests := true, laidLooks := .later }
def EngineFixedUptoCardSaid : Prop := Claim7.holds Tryz.pinned (.plain (OpenSpec.upto engineFixedSpec)) engineFixedUptoCard
end Rows
end Go.Proofs.YtjnckfchgcmmpaaGreatDoor
