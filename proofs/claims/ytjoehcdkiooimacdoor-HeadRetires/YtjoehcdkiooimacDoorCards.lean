/-
  DERIVED. GIVEN WITH THE SEED: THE CARDS: each row of YtjoehcdkiooimacDoorRows.lean that lists a variable, with what it lists TIED to the program's text (the seventh form; the later family's looks); each row that meets fmt, with fmt's text TOLD by the authors' own Lean function (tested against real Go, not proved from fmt's source: count such statements apart). THE CARD IS WHAT COUNTS. Prove the row's statement (the work); the ties are given (YtjoehcdkiooimacDoorTie.lean); close each card by the builder's one call (the guide's Derived/Test/ToyasCard.lean, 'card_holds'). Laid BY PROGRAM, IN A SANDBOX (cutbox-door.mjs). By AI agents, Wed Nov 11 2026. No macro, syntax, notation, axiom, sorry.
-/
import Derived.Test.YtjoehcdkiooimacDoorRows
import GoSem.ClaimSeven
namespace Go.Proofs.YtjoehcdkiooimacDoor
namespace Rows

/-- THE TIED CARD OF 'withylaw04.HeadRetires'. -/
def headRetiresCard : Claim7 := { stood := { row := headRetiresRow, standIns := [], harness := (true, "4fa8cfc54de72acb73d5f7ea619af46a9c417113e3efd10dbf2d6aa29ef4202d"), looks := false }, kinds := [], alts := [], laidByText := true, laidKinds := [.data], laidTests := true, laidLooks := .later }
def HeadRetiresCardSaid : Prop := Claim7.holds Tryd.pinned (.plain (OpenSpec.ofChange headRetiresSpec)) headRetiresCard

/-- THE TIED CARD OF 'withylaw04.HeadFollows'. -/
def headFollowsCard : Claim7 := { stood := { row := headFollowsRow, standIns := [], harness := (true, "4fa8cfc54de72acb73d5f7ea619af46a9c417113e3efd10dbf2d6aa29ef4202d"), looks := false }, kinds := [], alts := [], laidByText := true, laidKinds := [.data], laidTests := true, laidLooks := .later }
def HeadFollowsCardSaid : Prop := Claim7.holds Tryd.pinned (.plain (OpenSpec.ofChange headFollowsSpec)) headFollowsCard

/-- THE SECOND FORM's CARD OF 'withylaw04.HeadRetires'. -/
def headRetiresUptoCard : Claim7 := { stood := { row := headRetiresUptoRow, standIns := [], harness := (true, "4fa8cfc54de72acb73d5f7ea619af46a9c417113e3efd10dbf2d6aa29ef4202d"), looks := false }, kinds := [], alts := [], laidByText := true, laidKinds := [.data], laidTests := true, laidLooks := .later }
def HeadRetiresUptoCardSaid : Prop := Claim7.holds Tryd.pinned (.plain (OpenSpec.upto headRetiresSpec)) headRetiresUptoCard

/-- THE SECOND FORM's CARD OF 'withylaw04.HeadFollows'. -/
def headFollowsUptoCard : Claim7 := { stood := { row := headFollowsUptoRow, standIns := [], harness := (true, "4fa8cfc54de72acb73d5f7ea619af46a9c417113e3efd10dbf2d6aa29ef4202d"), looks := false }, kinds := [], alts := [], laidByText := true, laidKinds := [.data], laidTests := true, laidLooks := .later }
def HeadFollowsUptoCardSaid : Prop := Claim7.holds Tryd.pinned (.plain (OpenSpec.upto headFollowsSpec)) headFollowsUptoCard
end Rows
end Go.Proofs.YtjoehcdkiooimacDoor
