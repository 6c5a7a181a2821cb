/-
  DERIVED. GIVEN WITH THE SEED: THE CARDS: each row of YteechgmjaagbmaaDoorRows.lean that lists a variable, with what it lists TIED to the program's text (the seventh form; the later family's looks); each row that meets fmt, with fmt's text TOLD by the authors' own Lean function (tested against real Go, not proved from fmt's source: count such statements apart). THE CARD IS WHAT COUNTS. Prove the row's statement (the work); the ties are given (YteechgmjaagbmaaDoorTie.lean); close each card by the builder's one call (the guide's Derived/Test/ToyasCard.lean, 'card_holds'). Laid BY PROGRAM, IN A SANDBOX (cutbox-door.mjs). By AI agents, Wed Nov 11 2026. No macro, syntax, notation, axiom, sorry.
-/
import Derived.Test.YteechgmjaagbmaaDoorRows
import GoSem.ClaimSeven
namespace Go.Proofs.YteechgmjaagbmaaDoor
namespace Rows

/-- THE TIED CARD OF 'withylaw13.MarkNone'. -/
def markNoneCard : Claim7 := { stood := { row := markNoneRow, standIns := [], harness := (true, "b8d0cb0b6a81feeae75668de1f7bc7d7aeecc4e226bf2cd25889e752ebb89634"), looks := false }, kinds := [], alts := [], laidByText := true, laidKinds := [.data], laidTests := true, laidLooks := .later }
def MarkNoneCardSaid : Prop := Claim7.holds Tryd.pinned (.plain (OpenSpec.ofChange markNoneSpec)) markNoneCard

/-- THE SECOND FORM's CARD OF 'withylaw13.MarkNone'. -/
def markNoneUptoCard : Claim7 := { stood := { row := markNoneUptoRow, standIns := [], harness := (true, "b8d0cb0b6a81feeae75668de1f7bc7d7aeecc4e226bf2cd25889e752ebb89634"), looks := false }, kinds := [], alts := [], laidByText := true, laidKinds := [.data], laidTests := true, laidLooks := .later }
def MarkNoneUptoCardSaid : Prop := Claim7.holds Tryd.pinned (.plain (OpenSpec.upto markNoneSpec)) markNoneUptoCard
end Rows
end Go.Proofs.YteechgmjaagbmaaDoor
