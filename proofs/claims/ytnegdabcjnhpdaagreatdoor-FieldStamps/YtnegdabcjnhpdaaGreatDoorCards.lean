/-
  DERIVED. GIVEN WITH THE SEED: THE CARDS: each row of YtnegdabcjnhpdaaGreatDoorRows.lean that lists a variable, with what it lists TIED to the program's text (the seventh form; the later family's looks); each row that meets fmt, with fmt's text TOLD by the authors' own Lean function (tested against real Go, not proved from fmt's source: count such statements apart). THE CARD IS WHAT COUNTS. Prove the row's statement (the work); the ties are given (YtnegdabcjnhpdaaGreatDoorTie.lean); close each card by the builder's one call (the guide's Derived/Test/ToyasCard.lean, 'card_holds'). Laid BY PROGRAM, IN A SANDBOX (cutbox-door.mjs). By AI agents, Wed Nov 11 2026. No macro, syntax, notation, axiom, sorry.
-/
import Derived.Test.YtnegdabcjnhpdaaGreatDoorRows
import GoSem.ClaimSeven
namespace Go.Proofs.YtnegdabcjnhpdaaGreatDoor
namespace Rows

/-- THE TIED CARD OF 'withylaw10.FieldStamps'. -/
def fieldStampsCard : Claim7 := { stood := { row := fieldStampsRow, standIns := [], harness := (true, "f4933946e747314cfa317356aea9746c8a08b115cedab189c807c30ca314e193"), looks := false }, kinds := [], alts := [], laidByText := true, laidKinds := [.data], laidTests := true, laidLooks := .later }
def FieldStampsCardSaid : Prop := Claim7.holds Tryz.pinned (.plain (OpenSpec.ofChange fieldStampsSpec)) fieldStampsCard

/-- THE SECOND FORM's CARD OF 'withylaw10.FieldStamps'. -/
def fieldStampsUptoCard : Claim7 := { stood := { row := fieldStampsUptoRow, standIns := [], harness := (true, "f4933946e747314cfa317356aea9746c8a08b115cedab189c807c30ca314e193"), looks := false }, kinds := [], alts := [], laidByText := true, laidKinds := [.data], laidTests := true, laidLooks := .later }
def FieldStampsUptoCardSaid : Prop := Claim7.holds Tryz.pinned (.plain (OpenSpec.upto fieldStampsSpec)) fieldStampsUptoCard
end Rows
end Go.Proofs.YtnegdabcjnhpdaaGreatDoor
