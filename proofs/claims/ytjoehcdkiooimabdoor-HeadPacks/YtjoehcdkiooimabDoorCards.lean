/-
  DERIVED. GIVEN WITH THE SEED: THE CARDS: each row of YtjoehcdkiooimabDoorRows.lean that lists a variable, with what it lists TIED to the program's text (the seventh form; the later family's looks); each row that meets fmt, with fmt's text TOLD by the authors' own Lean function (tested against real Go, not proved from fmt's source: count such statements apart). THE CARD IS WHAT COUNTS. Prove the row's statement (the work); the ties are given (YtjoehcdkiooimabDoorTie.lean); close each card by the builder's one call (the guide's Derived/Test/ToyasCard.lean, 'card_holds'). Laid BY PROGRAM, IN A SANDBOX (cutbox-door.mjs). By AI agents, Wed Nov 11 2026. No macro, syntax, notation, axiom, sorry.
-/
import Derived.Test.YtjoehcdkiooimabDoorRows
import GoSem.ClaimSeven
namespace Go.Proofs.YtjoehcdkiooimabDoor
namespace Rows

/-- THE TIED CARD OF 'withylaw04.HeadPacks'. -/
def headPacksCard : Claim7 := { stood := { row := headPacksRow, standIns := [], harness := (true, "f5dbd7ff63437c55be813cd3e1a5e3ee04a7765231d012b1bdc41d902699f5b5"), looks := false }, kinds := [], alts := [], laidByText := true, laidKinds := [.data], laidTests := true, laidLooks := .later }
def HeadPacksCardSaid : Prop := Claim7.holds Tryd.pinned (.plain (OpenSpec.ofChange headPacksSpec)) headPacksCard

/-- THE TIED CARD OF 'withylaw04.HeadUnpacks'. -/
def headUnpacksCard : Claim7 := { stood := { row := headUnpacksRow, standIns := [], harness := (true, "f5dbd7ff63437c55be813cd3e1a5e3ee04a7765231d012b1bdc41d902699f5b5"), looks := false }, kinds := [], alts := [], laidByText := true, laidKinds := [.data], laidTests := true, laidLooks := .later }
def HeadUnpacksCardSaid : Prop := Claim7.holds Tryd.pinned (.plain (OpenSpec.ofChange headUnpacksSpec)) headUnpacksCard

/-- THE TIED CARD OF 'withylaw04.HeadMade'. -/
def headMadeCard : Claim7 := { stood := { row := headMadeRow, standIns := [], harness := (true, "f5dbd7ff63437c55be813cd3e1a5e3ee04a7765231d012b1bdc41d902699f5b5"), looks := false }, kinds := [], alts := [], laidByText := true, laidKinds := [.data], laidTests := true, laidLooks := .later }
def HeadMadeCardSaid : Prop := Claim7.holds Tryd.pinned (.plain (OpenSpec.ofChange headMadeSpec)) headMadeCard

/-- THE TIED CARD OF 'withylaw04.HeadShades'. -/
def headShadesCard : Claim7 := { stood := { row := headShadesRow, standIns := [], harness := (true, "f5dbd7ff63437c55be813cd3e1a5e3ee04a7765231d012b1bdc41d902699f5b5"), looks := false }, kinds := [], alts := [], laidByText := true, laidKinds := [.data], laidTests := true, laidLooks := .later }
def HeadShadesCardSaid : Prop := Claim7.holds Tryd.pinned (.plain (OpenSpec.ofChange headShadesSpec)) headShadesCard

/-- THE SECOND FORM's CARD OF 'withylaw04.HeadPacks'. -/
def headPacksUptoCard : Claim7 := { stood := { row := headPacksUptoRow, standIns := [], harness := (true, "f5dbd7ff63437c55be813cd3e1a5e3ee04a7765231d012b1bdc41d902699f5b5"), looks := false }, kinds := [], alts := [], laidByText := true, laidKinds := [.data], laidTests := true, laidLooks := .later }
def HeadPacksUptoCardSaid : Prop := Claim7.holds Tryd.pinned (.plain (OpenSpec.upto headPacksSpec)) headPacksUptoCard

/-- THE SECOND FORM's CARD OF 'withylaw04.HeadUnpacks'. -/
def headUnpacksUptoCard : Claim7 := { stood := { row := headUnpacksUptoRow, standIns := [], harness := (true, "f5dbd7ff63437c55be813cd3e1a5e3ee04a7765231d012b1bdc41d902699f5b5"), looks := false }, kinds := [], alts := [], laidByText := true, laidKinds := [.data], laidTests := true, laidLooks := .later }
def HeadUnpacksUptoCardSaid : Prop := Claim7.holds Tryd.pinned (.plain (OpenSpec.upto headUnpacksSpec)) headUnpacksUptoCard

/-- THE SECOND FORM's CARD OF 'withylaw04.HeadMade'. -/
def headMadeUptoCard : Claim7 := { stood := { row := headMadeUptoRow, standIns := [], harness := (true, "f5dbd7ff63437c55be813cd3e1a5e3ee04a7765231d012b1bdc41d902699f5b5"), looks := false }, kinds := [], alts := [], laidByText := true, laidKinds := [.data], laidTests := true, laidLooks := .later }
def HeadMadeUptoCardSaid : Prop := Claim7.holds Tryd.pinned (.plain (OpenSpec.upto headMadeSpec)) headMadeUptoCard

/-- THE SECOND FORM's CARD OF 'withylaw04.HeadShades'. -/
def headShadesUptoCard : Claim7 := { stood := { row := headShadesUptoRow, standIns := [], harness := (true, "f5dbd7ff63437c55be813cd3e1a5e3ee04a7765231d012b1bdc41d902699f5b5"), looks := false }, kinds := [], alts := [], laidByText := true, laidKinds := [.data], laidTests := true, laidLooks := .later }
def HeadShadesUptoCardSaid : Prop := Claim7.holds Tryd.pinned (.plain (OpenSpec.upto headShadesSpec)) headShadesUptoCard
end Rows
end Go.Proofs.YtjoehcdkiooimabDoor
