/-
  DERIVED. GIVEN WITH THE SEED: THE CARDS: each row of YtpfcpkkillklkabDoorRows.lean that lists a variable, with what it lists TIED to the program's text (the seventh form; the later family's looks); each row that meets fmt, with fmt's text TOLD by the authors' own Lean function (tested against real Go, not proved from fmt's source: count such statements apart). THE CARD IS WHAT COUNTS. Prove the row's statement (the work); the ties are given (YtpfcpkkillklkabDoorTie.lean); close each card by the builder's one call (the guide's Derived/Test/ToyasCard.lean, 'card_holds'). Laid BY PROGRAM, IN A SANDBOX (cutbox-door.mjs). By AI agents, Wed Nov 11 2026. No macro, syntax, notation, axiom, sorry.
-/
import Derived.Test.YtpfcpkkillklkabDoorRows
import GoSem.ClaimSeven
namespace Go.Proofs.YtpfcpkkillklkabDoor
namespace Rows

/-- THE TIED CARD OF 'withylaw09.ShadeAlone'. -/
def shadeAloneCard : Claim7 := { stood := { row := shadeAloneRow, standIns := [], harness := (true, "694a23ce358e6c1030492fcb4e3646146f65ecc687c4e10d90b6453396bfc902"), looks := false }, kinds := [], alts := [], laidByText := true, laidKinds := [.data], laidTests := true, laidLooks := .later }
def ShadeAloneCardSaid : Prop := Claim7.holds Tryd.pinned (.plain (OpenSpec.ofChange shadeAloneSpec)) shadeAloneCard

/-- THE TIED CARD OF 'withylaw09.ShadeGrays'. -/
def shadeGraysCard : Claim7 := { stood := { row := shadeGraysRow, standIns := [], harness := (true, "694a23ce358e6c1030492fcb4e3646146f65ecc687c4e10d90b6453396bfc902"), looks := false }, kinds := [], alts := [], laidByText := true, laidKinds := [.data], laidTests := true, laidLooks := .later }
def ShadeGraysCardSaid : Prop := Claim7.holds Tryd.pinned (.plain (OpenSpec.ofChange shadeGraysSpec)) shadeGraysCard

/-- THE TIED CARD OF 'withylaw09.ShadeNone'. -/
def shadeNoneCard : Claim7 := { stood := { row := shadeNoneRow, standIns := [], harness := (true, "694a23ce358e6c1030492fcb4e3646146f65ecc687c4e10d90b6453396bfc902"), looks := false }, kinds := [], alts := [], laidByText := true, laidKinds := [.data], laidTests := true, laidLooks := .later }
def ShadeNoneCardSaid : Prop := Claim7.holds Tryd.pinned (.plain (OpenSpec.ofChange shadeNoneSpec)) shadeNoneCard

/-- THE TIED CARD OF 'withylaw09.ShadeTwice'. -/
def shadeTwiceCard : Claim7 := { stood := { row := shadeTwiceRow, standIns := [], harness := (true, "694a23ce358e6c1030492fcb4e3646146f65ecc687c4e10d90b6453396bfc902"), looks := false }, kinds := [], alts := [], laidByText := true, laidKinds := [.data], laidTests := true, laidLooks := .later }
def ShadeTwiceCardSaid : Prop := Claim7.holds Tryd.pinned (.plain (OpenSpec.ofChange shadeTwiceSpec)) shadeTwiceCard

/-- THE SECOND FORM's CARD OF 'withylaw09.ShadeAlone'. -/
def shadeAloneUptoCard : Claim7 := { stood := { row := shadeAloneUptoRow, standIns := [], harness := (true, "694a23ce358e6c1030492fcb4e3646146f65ecc687c4e10d90b6453396bfc902"), looks := false }, kinds := [], alts := [], laidByText := true, laidKinds := [.data], laidTests := true, laidLooks := .later }
def ShadeAloneUptoCardSaid : Prop := Claim7.holds Tryd.pinned (.plain (OpenSpec.upto shadeAloneSpec)) shadeAloneUptoCard

/-- THE SECOND FORM's CARD OF 'withylaw09.ShadeGrays'. -/
def shadeGraysUptoCard : Claim7 := { stood := { row := shadeGraysUptoRow, standIns := [], harness := (true, "694a23ce358e6c1030492fcb4e3646146f65ecc687c4e10d90b6453396bfc902"), looks := false }, kinds := [], alts := [], laidByText := true, laidKinds := [.data], laidTests := true, laidLooks := .later }
def ShadeGraysUptoCardSaid : Prop := Claim7.holds Tryd.pinned (.plain (OpenSpec.upto shadeGraysSpec)) shadeGraysUptoCard

/-- THE SECOND FORM's CARD OF 'withylaw09.ShadeNone'. -/
def shadeNoneUptoCard : Claim7 := { stood := { row := shadeNoneUptoRow, standIns := [], harness := (true, "694a23ce358e6c1030492fcb4e3646146f65ecc687c4e10d90b6453396bfc902"), looks := false }, kinds := [], alts := [], laidByText := true, laidKinds := [.data], laidTests := true, laidLooks := .later }
def ShadeNoneUptoCardSaid : Prop := Claim7.holds Tryd.pinned (.plain (OpenSpec.upto shadeNoneSpec)) shadeNoneUptoCard

/-- THE SECOND FORM's CARD OF 'withylaw09.ShadeTwice'. -/
def shadeTwiceUptoCard : Claim7 := { stood := { row := shadeTwiceUptoRow, standIns := [], harness := (true, "694a23ce358e6c1030492fcb4e3646146f65ecc687c4e10d90b6453396bfc902"), looks := false }, kinds := [], alts := [], laidByText := true, laidKinds := [.data], laidTests := true, laidLooks := .later }
def ShadeTwiceUptoCardSaid : Prop := Claim7.holds Tryd.pinned (.plain (OpenSpec.upto shadeTwiceSpec)) shadeTwiceUptoCard
end Rows
end Go.Proofs.YtpfcpkkillklkabDoor
