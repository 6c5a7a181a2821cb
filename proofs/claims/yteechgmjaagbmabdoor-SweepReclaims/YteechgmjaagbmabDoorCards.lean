/-
  DERIVED. GIVEN WITH THE SEED: THE CARDS: each row of YteechgmjaagbmabDoorRows.lean that lists a variable, with what it lists TIED to the program's text (the seventh form; the later family's looks); each row that meets fmt, with fmt's text TOLD by the authors' own Lean function (tested against real Go, not proved from fmt's source: count such statements apart). THE CARD IS WHAT COUNTS. Prove the row's statement (the work); the ties are given (YteechgmjaagbmabDoorTie.lean); close each card by the builder's one call (the guide's Derived/Test/ToyasCard.lean, 'card_holds'). Laid BY PROGRAM, IN A SANDBOX (cutbox-door.mjs). By AI agents, Wed Nov 11 2026. No macro, syntax, notation, axiom, sorry.
-/
import Derived.Test.YteechgmjaagbmabDoorRows
import GoSem.ClaimSeven
namespace Go.Proofs.YteechgmjaagbmabDoor
namespace Rows

/-- THE TIED CARD OF 'withylaw14.SweepSweeps'. -/
def sweepSweepsCard : Claim7 := { stood := { row := sweepSweepsRow, standIns := [], harness := (true, "be5fb775134153c4854a490c9034a29fff412a591dd5aad2560825e687c425fd"), looks := false }, kinds := [], alts := [], laidByText := true, laidKinds := [.data], laidTests := true, laidLooks := .later }
def SweepSweepsCardSaid : Prop := Claim7.holds Tryd.pinned (.plain (OpenSpec.ofChange sweepSweepsSpec)) sweepSweepsCard

/-- THE TIED CARD OF 'withylaw14.SweepReclaims'. -/
def sweepReclaimsCard : Claim7 := { stood := { row := sweepReclaimsRow, standIns := [], harness := (true, "be5fb775134153c4854a490c9034a29fff412a591dd5aad2560825e687c425fd"), looks := false }, kinds := [], alts := [], laidByText := true, laidKinds := [.data], laidTests := true, laidLooks := .later }
def SweepReclaimsCardSaid : Prop := Claim7.holds Tryd.pinned (.plain (OpenSpec.ofChange sweepReclaimsSpec)) sweepReclaimsCard

/-- THE TIED CARD OF 'withylaw14.SweepShades'. -/
def sweepShadesCard : Claim7 := { stood := { row := sweepShadesRow, standIns := [], harness := (true, "be5fb775134153c4854a490c9034a29fff412a591dd5aad2560825e687c425fd"), looks := false }, kinds := [], alts := [], laidByText := true, laidKinds := [.data], laidTests := true, laidLooks := .later }
def SweepShadesCardSaid : Prop := Claim7.holds Tryd.pinned (.plain (OpenSpec.ofChange sweepShadesSpec)) sweepShadesCard

/-- THE TIED CARD OF 'withylaw14.SweepNone'. -/
def sweepNoneCard : Claim7 := { stood := { row := sweepNoneRow, standIns := [], harness := (true, "be5fb775134153c4854a490c9034a29fff412a591dd5aad2560825e687c425fd"), looks := false }, kinds := [], alts := [], laidByText := true, laidKinds := [.data], laidTests := true, laidLooks := .later }
def SweepNoneCardSaid : Prop := Claim7.holds Tryd.pinned (.plain (OpenSpec.ofChange sweepNoneSpec)) sweepNoneCard

/-- THE SECOND FORM's CARD OF 'withylaw14.SweepSweeps'. -/
def sweepSweepsUptoCard : Claim7 := { stood := { row := sweepSweepsUptoRow, standIns := [], harness := (true, "be5fb775134153c4854a490c9034a29fff412a591dd5aad2560825e687c425fd"), looks := false }, kinds := [], alts := [], laidByText := true, laidKinds := [.data], laidTests := true, laidLooks := .later }
def SweepSweepsUptoCardSaid : Prop := Claim7.holds Tryd.pinned (.plain (OpenSpec.upto sweepSweepsSpec)) sweepSweepsUptoCard

/-- THE SECOND FORM's CARD OF 'withylaw14.SweepReclaims'. -/
def sweepReclaimsUptoCard : Claim7 := { stood := { row := sweepReclaimsUptoRow, standIns := [], harness := (true, "be5fb775134153c4854a490c9034a29fff412a591dd5aad2560825e687c425fd"), looks := false }, kinds := [], alts := [], laidByText := true, laidKinds := [.data], laidTests := true, laidLooks := .later }
def SweepReclaimsUptoCardSaid : Prop := Claim7.holds Tryd.pinned (.plain (OpenSpec.upto sweepReclaimsSpec)) sweepReclaimsUptoCard

/-- THE SECOND FORM's CARD OF 'withylaw14.SweepShades'. -/
def sweepShadesUptoCard : Claim7 := { stood := { row := sweepShadesUptoRow, standIns := [], harness := (true, "be5fb775134153c4854a490c9034a29fff412a591dd5aad2560825e687c425fd"), looks := false }, kinds := [], alts := [], laidByText := true, laidKinds := [.data], laidTests := true, laidLooks := .later }
def SweepShadesUptoCardSaid : Prop := Claim7.holds Tryd.pinned (.plain (OpenSpec.upto sweepShadesSpec)) sweepShadesUptoCard

/-- THE SECOND FORM's CARD OF 'withylaw14.SweepNone'. -/
def sweepNoneUptoCard : Claim7 := { stood := { row := sweepNoneUptoRow, standIns := [], harness := (true, "be5fb775134153c4854a490c9034a29fff412a591dd5aad2560825e687c425fd"), looks := false }, kinds := [], alts := [], laidByText := true, laidKinds := [.data], laidTests := true, laidLooks := .later }
def SweepNoneUptoCardSaid : Prop := Claim7.holds Tryd.pinned (.plain (OpenSpec.upto sweepNoneSpec)) sweepNoneUptoCard
end Rows
end Go.Proofs.YteechgmjaagbmabDoor
