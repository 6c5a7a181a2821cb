/-
  DERIVED. GIVEN WITH THE SEED: THE CARDS: each row of YtcioomopgdhlmaaGreatDoorRows.lean that lists a variable, with what it lists TIED to the program's text (the seventh form; the later family's looks); each row that meets fmt, with fmt's text TOLD by the authors' own Lean function (tested against real Go, not proved from fmt's source: count such statements apart). THE CARD IS WHAT COUNTS. Prove the row's statement (the work); the ties are given (YtcioomopgdhlmaaGreatDoorTie.lean); close each card by the builder's one call (the guide's Derived/Test/ToyasCard.lean, 'card_holds'). Laid BY PROGRAM, IN A SANDBOX (cutbox-door.mjs). By AI agents, Wed Nov 11 2026. No macro, syntax, notation, axiom, sorry.
-/
import Derived.Test.YtcioomopgdhlmaaGreatDoorRows
import GoSem.ClaimSeven
namespace Go.Proofs.YtcioomopgdhlmaaGreatDoor
namespace Rows

/-- THE TIED CARD OF 'withylaw13.MarkFound'. -/
def markFoundCard : Claim7 := { stood := { row := markFoundRow, standIns := [], harness := (true, "2f82ca4aa87cc1425c7463f614996142d261fa140f3d99e03252836992e8a117"), looks := false }, kinds := [], alts := [], laidByText := true, laidKinds := [.data], laidTests := true, laidLooks := .later }
def MarkFoundCardSaid : Prop := Claim7.holds Tryz.pinned (.plain (OpenSpec.ofChange markFoundSpec)) markFoundCard

/-- THE SECOND FORM's CARD OF 'withylaw13.MarkFound'. -/
def markFoundUptoCard : Claim7 := { stood := { row := markFoundUptoRow, standIns := [], harness := (true, "2f82ca4aa87cc1425c7463f614996142d261fa140f3d99e03252836992e8a117"), looks := false }, kinds := [], alts := [], laidByText := true, laidKinds := [.data], laidTests := true, laidLooks := .later }
def MarkFoundUptoCardSaid : Prop := Claim7.holds Tryz.pinned (.plain (OpenSpec.upto markFoundSpec)) markFoundUptoCard
end Rows
end Go.Proofs.YtcioomopgdhlmaaGreatDoor
