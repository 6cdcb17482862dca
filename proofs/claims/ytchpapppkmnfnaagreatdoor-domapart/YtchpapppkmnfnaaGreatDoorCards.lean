/-
  DERIVED. GIVEN WITH THE SEED: THE CARDS: each row of YtchpapppkmnfnaaGreatDoorRows.lean that lists a variable, with what it lists TIED to the program's text (the seventh form; the later family's looks); each row that meets fmt, with fmt's text TOLD by the authors' own Lean function (tested against real Go, not proved from fmt's source: count such statements apart). THE CARD IS WHAT COUNTS. Prove the row's statement (the work); the ties are given (YtchpapppkmnfnaaGreatDoorTie.lean); close each card by the builder's one call (the guide's Derived/Test/ToyasCard.lean, 'card_holds'). Laid BY PROGRAM, IN A SANDBOX (cutbox-door.mjs). By AI agents, Wed Nov 11 2026. No macro, syntax, notation, axiom, sorry.
-/
import Derived.Test.YtchpapppkmnfnaaGreatDoorRows
import GoSem.ClaimSeven
namespace Go.Proofs.YtchpapppkmnfnaaGreatDoor
namespace Rows

/-- THE TIED CARD OF 'hallmarklaw11.DomApart'. -/
def domApartCard : Claim7 := { stood := { row := domApartRow, standIns := [], harness := (true, "2e5219aff77f59ff21f742f0748bf4d74944f1a6bd0bd9e402ce51f240a57bcb"), looks := false }, kinds := [], alts := [], laidByText := true, laidKinds := [.data, .data, .data], laidTests := true, laidLooks := .later }
def DomApartCardSaid : Prop := Claim7.holds Tryz.pinned (.plain (OpenSpec.ofChange domApartSpec)) domApartCard

/-- THE SECOND FORM's CARD OF 'hallmarklaw11.DomApart'. -/
def domApartUptoCard : Claim7 := { stood := { row := domApartUptoRow, standIns := [], harness := (true, "2e5219aff77f59ff21f742f0748bf4d74944f1a6bd0bd9e402ce51f240a57bcb"), looks := false }, kinds := [], alts := [], laidByText := true, laidKinds := [.data, .data, .data], laidTests := true, laidLooks := .later }
def DomApartUptoCardSaid : Prop := Claim7.holds Tryz.pinned (.plain (OpenSpec.upto domApartSpec)) domApartUptoCard
end Rows
end Go.Proofs.YtchpapppkmnfnaaGreatDoor
