/-
  DERIVED. GIVEN WITH THE SEED: THE CARDS: each row of YtpfcpkkillklkaaDoorRows.lean that lists a variable, with what it lists TIED to the program's text (the seventh form; the later family's looks); each row that meets fmt, with fmt's text TOLD by the authors' own Lean function (tested against real Go, not proved from fmt's source: count such statements apart). THE CARD IS WHAT COUNTS. Prove the row's statement (the work); the ties are given (YtpfcpkkillklkaaDoorTie.lean); close each card by the builder's one call (the guide's Derived/Test/ToyasCard.lean, 'card_holds'). Laid BY PROGRAM, IN A SANDBOX (cutbox-door.mjs). By AI agents, Wed Nov 11 2026. No macro, syntax, notation, axiom, sorry.
-/
import Derived.Test.YtpfcpkkillklkaaDoorRows
import GoSem.ClaimSeven
namespace Go.Proofs.YtpfcpkkillklkaaDoor
namespace Rows

/-- THE TIED CARD OF 'withylaw09.ShadePlays'. -/
def shadePlaysCard : Claim7 := { stood := { row := shadePlaysRow, standIns := [], harness := (true, "6bf427c3ebb7bffd5f1e12352682748a453a06d5bd91956c1f27cf7caf98f757"), looks := false }, kinds := [], alts := [], laidByText := true, laidKinds := [.data], laidTests := true, laidLooks := .later }
def ShadePlaysCardSaid : Prop := Claim7.holds Tryd.pinned (.plain (OpenSpec.ofChange shadePlaysSpec)) shadePlaysCard

/-- THE SECOND FORM's CARD OF 'withylaw09.ShadePlays'. -/
def shadePlaysUptoCard : Claim7 := { stood := { row := shadePlaysUptoRow, standIns := [], harness := (true, "6bf427c3ebb7bffd5f1e12352682748a453a06d5bd91956c1f27cf7caf98f757"), looks := false }, kinds := [], alts := [], laidByText := true, laidKinds := [.data], laidTests := true, laidLooks := .later }
def ShadePlaysUptoCardSaid : Prop := Claim7.holds Tryd.pinned (.plain (OpenSpec.upto shadePlaysSpec)) shadePlaysUptoCard
end Rows
end Go.Proofs.YtpfcpkkillklkaaDoor
