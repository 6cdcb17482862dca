/-
  DERIVED. GIVEN WITH THE SEED: THE CARDS: each row of YtemnbcilmbojhaaGreatDoorRows.lean that lists a variable, with what it lists TIED to the program's text (the seventh form; the later family's looks); each row that meets fmt, with fmt's text TOLD by the authors' own Lean function (tested against real Go, not proved from fmt's source: count such statements apart). THE CARD IS WHAT COUNTS. Prove the row's statement (the work); the ties are given (YtemnbcilmbojhaaGreatDoorTie.lean); close each card by the builder's one call (the guide's Derived/Test/ToyasCard.lean, 'card_holds'). Laid BY PROGRAM, IN A SANDBOX (cutbox-door.mjs). By AI agents, Wed Nov 11 2026. No macro, syntax, notation, axiom, sorry.
-/
import Derived.Test.YtemnbcilmbojhaaGreatDoorRows
import GoSem.ClaimSeven
namespace Go.Proofs.YtemnbcilmbojhaaGreatDoor
namespace Rows

/-- THE TIED CARD OF 'hallmarklaw13.HallSafe'. -/
def hallSafeCard : Claim7 := { stood := { row := hallSafeRow, standIns := [], harness := (true, "24f7a5681801e56b6db6c5d9c2dfb6e94c1ab4a514929a16242516d5b59acc8e"), looks := false }, kinds := [], alts := [], laidByText := true, laidKinds := [.data], laidTests := true, laidLooks := .later }
def HallSafeCardSaid : Prop := Claim7.holds Tryz.pinned (.plain (OpenSpec.ofChange hallSafeSpec)) hallSafeCard

/-- THE TIED CARD OF 'hallmarklaw13.HallEnds'. -/
def hallEndsCard : Claim7 := { stood := { row := hallEndsRow, standIns := [], harness := (true, "24f7a5681801e56b6db6c5d9c2dfb6e94c1ab4a514929a16242516d5b59acc8e"), looks := false }, kinds := [], alts := [], laidByText := true, laidKinds := [.data], laidTests := true, laidLooks := .later }
def HallEndsCardSaid : Prop := Claim7.holds Tryz.pinned (.plain (OpenSpec.ofChange hallEndsSpec)) hallEndsCard

/-- THE TIED CARD OF 'hallmarklaw13.HallLess'. -/
def hallLessCard : Claim7 := { stood := { row := hallLessRow, standIns := [], harness := (true, "24f7a5681801e56b6db6c5d9c2dfb6e94c1ab4a514929a16242516d5b59acc8e"), looks := false }, kinds := [], alts := [], laidByText := true, laidKinds := [.data], laidTests := true, laidLooks := .later }
def HallLessCardSaid : Prop := Claim7.holds Tryz.pinned (.plain (OpenSpec.ofChange hallLessSpec)) hallLessCard

/-- THE SECOND FORM's CARD OF 'hallmarklaw13.HallSafe'. -/
def hallSafeUptoCard : Claim7 := { stood := { row := hallSafeUptoRow, standIns := [], harness := (true, "24f7a5681801e56b6db6c5d9c2dfb6e94c1ab4a514929a16242516d5b59acc8e"), looks := false }, kinds := [], alts := [], laidByText := true, laidKinds := [.data], laidTests := true, laidLooks := .later }
def HallSafeUptoCardSaid : Prop := Claim7.holds Tryz.pinned (.plain (OpenSpec.upto hallSafeSpec)) hallSafeUptoCard

/-- THE SECOND FORM's CARD OF 'hallmarklaw13.HallEnds'. -/
def hallEndsUptoCard : Claim7 := { stood := { row := hallEndsUptoRow, standIns := [], harness := (true, "24f7a5681801e56b6db6c5d9c2dfb6e94c1ab4a514929a16242516d5b59acc8e"), looks := false }, kinds := [], alts := [], laidByText := true, laidKinds := [.data], laidTests := true, laidLooks := .later }
def HallEndsUptoCardSaid : Prop := Claim7.holds Tryz.pinned (.plain (OpenSpec.upto hallEndsSpec)) hallEndsUptoCard

/-- THE SECOND FORM's CARD OF 'hallmarklaw13.HallLess'. -/
def hallLessUptoCard : Claim7 := { stood := { row := hallLessUptoRow, standIns := [], harness := (true, "24f7a5681801e56b6db6c5d9c2dfb6e94c1ab4a514929a16242516d5b59acc8e"), looks := false }, kinds := [], alts := [], laidByText := true, laidKinds := [.data], laidTests := true, laidLooks := .later }
def HallLessUptoCardSaid : Prop := Claim7.holds Tryz.pinned (.plain (OpenSpec.upto hallLessSpec)) hallLessUptoCard
end Rows
end Go.Proofs.YtemnbcilmbojhaaGreatDoor
