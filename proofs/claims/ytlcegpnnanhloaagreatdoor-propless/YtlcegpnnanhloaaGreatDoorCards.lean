/-
  DERIVED. GIVEN WITH THE SEED: THE CARDS: each row of YtlcegpnnanhloaaGreatDoorRows.lean that lists a variable, with what it lists TIED to the program's text (the seventh form; the later family's looks); each row that meets fmt, with fmt's text TOLD by the authors' own Lean function (tested against real Go, not proved from fmt's source: count such statements apart). THE CARD IS WHAT COUNTS. Prove the row's statement (the work); the ties are given (YtlcegpnnanhloaaGreatDoorTie.lean); close each card by the builder's one call (the guide's Derived/Test/ToyasCard.lean, 'card_holds'). Laid BY PROGRAM, IN A SANDBOX (cutbox-door.mjs). By AI agents, Wed Nov 11 2026. No macro, syntax, notation, axiom, sorry.
-/
import Derived.Test.YtlcegpnnanhloaaGreatDoorRows
import GoSem.ClaimSeven
namespace Go.Proofs.YtlcegpnnanhloaaGreatDoor
namespace Rows

/-- THE TIED CARD OF 'hallmarklaw12.PropSafe'. -/
def propSafeCard : Claim7 := { stood := { row := propSafeRow, standIns := [], harness := (true, "3b479b83842204159f029e25aa8622a706afe90f8b67361f28e00b58e3a9787d"), looks := false }, kinds := [], alts := [], laidByText := true, laidKinds := [.data], laidTests := true, laidLooks := .later }
def PropSafeCardSaid : Prop := Claim7.holds Tryz.pinned (.plain (OpenSpec.ofChange propSafeSpec)) propSafeCard

/-- THE TIED CARD OF 'hallmarklaw12.PropEnds'. -/
def propEndsCard : Claim7 := { stood := { row := propEndsRow, standIns := [], harness := (true, "3b479b83842204159f029e25aa8622a706afe90f8b67361f28e00b58e3a9787d"), looks := false }, kinds := [], alts := [], laidByText := true, laidKinds := [.data], laidTests := true, laidLooks := .later }
def PropEndsCardSaid : Prop := Claim7.holds Tryz.pinned (.plain (OpenSpec.ofChange propEndsSpec)) propEndsCard

/-- THE TIED CARD OF 'hallmarklaw12.PropLess'. -/
def propLessCard : Claim7 := { stood := { row := propLessRow, standIns := [], harness := (true, "3b479b83842204159f029e25aa8622a706afe90f8b67361f28e00b58e3a9787d"), looks := false }, kinds := [], alts := [], laidByText := true, laidKinds := [.data], laidTests := true, laidLooks := .later }
def PropLessCardSaid : Prop := Claim7.holds Tryz.pinned (.plain (OpenSpec.ofChange propLessSpec)) propLessCard

/-- THE SECOND FORM's CARD OF 'hallmarklaw12.PropSafe'. -/
def propSafeUptoCard : Claim7 := { stood := { row := propSafeUptoRow, standIns := [], harness := (true, "3b479b83842204159f029e25aa8622a706afe90f8b67361f28e00b58e3a9787d"), looks := false }, kinds := [], alts := [], laidByText := true, laidKinds := [.data], laidTests := true, laidLooks := .later }
def PropSafeUptoCardSaid : Prop := Claim7.holds Tryz.pinned (.plain (OpenSpec.upto propSafeSpec)) propSafeUptoCard

/-- THE SECOND FORM's CARD OF 'hallmarklaw12.PropEnds'. -/
def propEndsUptoCard : Claim7 := { stood := { row := propEndsUptoRow, standIns := [], harness := (true, "3b479b83842204159f029e25aa8622a706afe90f8b67361f28e00b58e3a9787d"), looks := false }, kinds := [], alts := [], laidByText := true, laidKinds := [.data], laidTests := true, laidLooks := .later }
def PropEndsUptoCardSaid : Prop := Claim7.holds Tryz.pinned (.plain (OpenSpec.upto propEndsSpec)) propEndsUptoCard

/-- THE SECOND FORM's CARD OF 'hallmarklaw12.PropLess'. -/
def propLessUptoCard : Claim7 := { stood := { row := propLessUptoRow, standIns := [], harness := (true, "3b479b83842204159f029e25aa8622a706afe90f8b67361f28e00b58e3a9787d"), looks := false }, kinds := [], alts := [], laidByText := true, laidKinds := [.data], laidTests := true, laidLooks := .later }
def PropLessUptoCardSaid : Prop := Claim7.holds Tryz.pinned (.plain (OpenSpec.upto propLessSpec)) propLessUptoCard
end Rows
end Go.Proofs.YtlcegpnnanhloaaGreatDoor
