/-
  DERIVED. GIVEN WITH THE SEED: THE CARDS: each row of YtkipagelbcdhkaaGreatDoorRows.lean that lists a variable, with what it lists TIED to the program's text (the seventh form; the later family's looks); each row that meets fmt, with fmt's text TOLD by the authors' own Lean function (tested against real Go, not proved from fmt's source: count such statements apart). THE CARD IS WHAT COUNTS. Prove the row's statement (the work); the ties are given (YtkipagelbcdhkaaGreatDoorTie.lean); close each card by the builder's one call (the guide's Derived/Test/ToyasCard.lean, 'card_holds'). Laid BY PROGRAM, IN A SANDBOX (cutbox-door.mjs). By AI agents, Wed Nov 11 2026. No macro, syntax, notation, axiom, sorry.
-/
import Derived.Test.YtkipagelbcdhkaaGreatDoorRows
import GoSem.ClaimSeven
namespace Go.Proofs.YtkipagelbcdhkaaGreatDoor
namespace Rows

/-- THE TIED CARD OF 'hallmarklaw11.DomPlays'. -/
def domPlaysCard : Claim7 := { stood := { row := domPlaysRow, standIns := [], harness := (true, "6c078445220d03bfbb651e9ba7aea832dfcc026393b124aa264f05eb6c35d649"), looks := false }, kinds := [], alts := [], laidByText := true, laidKinds := [.data], laidTests := true, laidLooks := .later }
def DomPlaysCardSaid : Prop := Claim7.holds Tryz.pinned (.plain (OpenSpec.ofChange domPlaysSpec)) domPlaysCard

/-- THE TIED CARD OF 'hallmarklaw11.DomTwo'. -/
def domTwoCard : Claim7 := { stood := { row := domTwoRow, standIns := [], harness := (true, "6c078445220d03bfbb651e9ba7aea832dfcc026393b124aa264f05eb6c35d649"), looks := false }, kinds := [], alts := [], laidByText := true, laidKinds := [.data], laidTests := true, laidLooks := .later }
def DomTwoCardSaid : Prop := Claim7.holds Tryz.pinned (.plain (OpenSpec.ofChange domTwoSpec)) domTwoCard

/-- THE SECOND FORM's CARD OF 'hallmarklaw11.DomPlays'. -/
def domPlaysUptoCard : Claim7 := { stood := { row := domPlaysUptoRow, standIns := [], harness := (true, "6c078445220d03bfbb651e9ba7aea832dfcc026393b124aa264f05eb6c35d649"), looks := false }, kinds := [], alts := [], laidByText := true, laidKinds := [.data], laidTests := true, laidLooks := .later }
def DomPlaysUptoCardSaid : Prop := Claim7.holds Tryz.pinned (.plain (OpenSpec.upto domPlaysSpec)) domPlaysUptoCard

/-- THE SECOND FORM's CARD OF 'hallmarklaw11.DomTwo'. -/
def domTwoUptoCard : Claim7 := { stood := { row := domTwoUptoRow, standIns := [], harness := (true, "6c078445220d03bfbb651e9ba7aea832dfcc026393b124aa264f05eb6c35d649"), looks := false }, kinds := [], alts := [], laidByText := true, laidKinds := [.data], laidTests := true, laidLooks := .later }
def DomTwoUptoCardSaid : Prop := Claim7.holds Tryz.pinned (.plain (OpenSpec.upto domTwoSpec)) domTwoUptoCard
end Rows
end Go.Proofs.YtkipagelbcdhkaaGreatDoor
