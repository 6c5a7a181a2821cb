/-
  NARROWER THAN 'FOR EVERY INPUT', by the rows' own cells (each row's printed sentence says how): SweepSweeps: laid · SweepReclaims: laid · SweepShades: laid · SweepNone: laid.
  DERIVED. THE GIVEN ROWS OF THIS SEAT. 4 by the template 'for every input the law returns true; each argument reads behind the call as it read before'; 0 by the template 'total and deterministic' (their statements: YteechgmjaagbmabDoorTotals.lean).
  GIVEN WITH THE SEED: the statements are not yours to turn. If you find one false, say at which input.
  Laid BY PROGRAM, IN A SANDBOX (cutbox-rows.mjs): the forced cells as the released guide's own fill.sh prints them over the translation 14cd0811b88a04a8… (all of the seat's roots in one cut). By AI agents, Wed Nov 11 2026. No macro, syntax, notation, axiom, sorry.
-/
import Derived.Test.YteechgmjaagbmabDoorChecked
import GoSem.Claim
import GoSem.ClaimJoined
import GoSem.ClaimMapViews
import Derived.JoinedTies
import Derived.KernelRfl
namespace Go.Proofs.YteechgmjaagbmabDoor
/- THE CELL 'sum', in the pinned program and in every row, IS THE sha256 OF THE DUMP (.gsa) THAT YteechgmjaagbmabDoorProg.lean LOADS. Nothing in Lean hashes anything: it is a label: what it is worth is what the hold of that sum in a sandbox is worth. -/
noncomputable def Tryd.pinned : Pinned := { name := "yteechgmjaagbmabdoor", sum := "14cd0811b88a04a8c0fc05298f5e33bb65a399702beb6e9c1e1218e1f7284df2", checked := Tryd.checked }
namespace Rows
def none {H : Type} : Left H := { results := [], args := [] }

/- WHAT THE LISTED PACKAGE-LEVEL VARIABLES READ AS WHEN THE CALL BEGINS. Each datum BY PROGRAM (the guide's laid-datum.mjs) off the statement by which the dump's own 'gosem.cut.vars' lays the variable. In a bare row this is a premise. The card (YteechgmjaagbmabDoorCards.lean) ties it to the program's text. -/
def laid_withy_head_widths {H : Type} : DataW H := .agg [.lit (.int .i64 3), .lit (.int .i64 1), .lit (.int .i64 1), .lit (.int .i64 4), .lit (.int .i64 7), .lit (.int .i64 32), .lit (.int .i64 16)]

/-- 'withylaw14.SweepSweeps': WHATEVER THE INPUT: true; the input reads as it did. -/
def sweepSweepsSpec : ChangeSpec := { name := "sweepSweeps", fn := fun _ => fun
  | [d1, d2, d3] => { results := [.lit (.bool true)], args := [d1, d2, d3] }
  | _ => none }
def sweepSweepsRow : OpenClaim := { program := "yteechgmjaagbmabdoor", sum := "14cd0811b88a04a8c0fc05298f5e33bb65a399702beb6e9c1e1218e1f7284df2", func := "withy/withylaw14.SweepSweeps", spec := "sweepSweeps", unfollowed := true, recurses := true, named := ["withy/head.widths"], apart := false, laid := [("withy/head.widths", laid_withy_head_widths)] }
def SweepSweepsSaid : Prop := sweepSweepsRow.holds Tryd.pinned (OpenSpec.ofChange sweepSweepsSpec)

/-- ITS FALSE NEIGHBOUR: 'it returns false'. Refute it at one input. -/
def sweepSweepsWrong : ChangeSpec := { name := "sweepSweeps", fn := fun _ => fun
  | [d1, d2, d3] => { results := [.lit (.bool false)], args := [d1, d2, d3] }
  | _ => none }
def SweepSweepsWrongFalsely : Prop := sweepSweepsRow.holds Tryd.pinned (OpenSpec.ofChange sweepSweepsWrong)

/-- 'withylaw14.SweepReclaims': WHATEVER THE INPUT: true; the input reads as it did. -/
def sweepReclaimsSpec : ChangeSpec := { name := "sweepReclaims", fn := fun _ => fun
  | [d1, d2] => { results := [.lit (.bool true)], args := [d1, d2] }
  | _ => none }
def sweepReclaimsRow : OpenClaim := { program := "yteechgmjaagbmabdoor", sum := "14cd0811b88a04a8c0fc05298f5e33bb65a399702beb6e9c1e1218e1f7284df2", func := "withy/withylaw14.SweepReclaims", spec := "sweepReclaims", unfollowed := true, recurses := true, named := ["withy/head.widths"], apart := false, laid := [("withy/head.widths", laid_withy_head_widths)] }
def SweepReclaimsSaid : Prop := sweepReclaimsRow.holds Tryd.pinned (OpenSpec.ofChange sweepReclaimsSpec)

/-- ITS FALSE NEIGHBOUR: 'it returns false'. Refute it at one input. -/
def sweepReclaimsWrong : ChangeSpec := { name := "sweepReclaims", fn := fun _ => fun
  | [d1, d2] => { results := [.lit (.bool false)], args := [d1, d2] }
  | _ => none }
def SweepReclaimsWrongFalsely : Prop := sweepReclaimsRow.holds Tryd.pinned (OpenSpec.ofChange sweepReclaimsWrong)

/-- 'withylaw14.SweepShades': WHATEVER THE INPUT: true; the input reads as it did. -/
def sweepShadesSpec : ChangeSpec := { name := "sweepShades", fn := fun _ => fun
  | [d1, d2, d3] => { results := [.lit (.bool true)], args := [d1, d2, d3] }
  | _ => none }
def sweepShadesRow : OpenClaim := { program := "yteechgmjaagbmabdoor", sum := "14cd0811b88a04a8c0fc05298f5e33bb65a399702beb6e9c1e1218e1f7284df2", func := "withy/withylaw14.SweepShades", spec := "sweepShades", unfollowed := true, recurses := true, named := ["withy/head.widths"], apart := false, laid := [("withy/head.widths", laid_withy_head_widths)] }
def SweepShadesSaid : Prop := sweepShadesRow.holds Tryd.pinned (OpenSpec.ofChange sweepShadesSpec)

/-- ITS FALSE NEIGHBOUR: 'it returns false'. Refute it at one input. -/
def sweepShadesWrong : ChangeSpec := { name := "sweepShades", fn := fun _ => fun
  | [d1, d2, d3] => { results := [.lit (.bool false)], args := [d1, d2, d3] }
  | _ => none }
def SweepShadesWrongFalsely : Prop := sweepShadesRow.holds Tryd.pinned (OpenSpec.ofChange sweepShadesWrong)

/-- 'withylaw14.SweepNone': WHATEVER THE INPUT: true; the input reads as it did. -/
def sweepNoneSpec : ChangeSpec := { name := "sweepNone", fn := fun _ => fun
  | [d1, d2] => { results := [.lit (.bool true)], args := [d1, d2] }
  | _ => none }
def sweepNoneRow : OpenClaim := { program := "yteechgmjaagbmabdoor", sum := "14cd0811b88a04a8c0fc05298f5e33bb65a399702beb6e9c1e1218e1f7284df2", func := "withy/withylaw14.SweepNone", spec := "sweepNone", unfollowed := true, recurses := true, named := ["withy/head.widths"], apart := false, laid := [("withy/head.widths", laid_withy_head_widths)] }
def SweepNoneSaid : Prop := sweepNoneRow.holds Tryd.pinned (OpenSpec.ofChange sweepNoneSpec)

/-- ITS FALSE NEIGHBOUR: 'it returns false'. Refute it at one input. -/
def sweepNoneWrong : ChangeSpec := { name := "sweepNone", fn := fun _ => fun
  | [d1, d2] => { results := [.lit (.bool false)], args := [d1, d2] }
  | _ => none }
def SweepNoneWrongFalsely : Prop := sweepNoneRow.holds Tryd.pinned (OpenSpec.ofChange sweepNoneWrong)

/- THE SECOND FORM. 'bulk': how many values and letters a reading holds, each counted each time it is reached (what is shared counts as often as it is met; a slice's spare places count too). A statement '..UptoSaid' is the law's where the arguments, and the package variables that the reading takes, are together of bulk at most 1048576: NARROWER than '..Said'. Prove '..Said' where nothing that the law and all that it calls make is longer than what came in: it says more and counts as full. Else prove '..UptoSaid'. A law counts once. -/
mutual
def uptoBulk {H : Type} : DataW H → Nat
  | .lit (.string bytes) => bytes.length + 1
  | .lit _ => 1
  | .nil => 1
  | .ptr d => uptoBulk d + 1
  | .slice elems spare => uptoBulkAll elems + uptoBulkAll spare + 1
  | .agg parts => uptoBulkAll parts + 1
  | .iface _ d => uptoBulk d + 1
  | .map entries => uptoBulkEntries entries + 1
  | .held _ => 1
def uptoBulkAll {H : Type} : List (DataW H) → Nat
  | [] => 0
  | d :: r => uptoBulk d + uptoBulkAll r
def uptoBulkEntries {H : Type} : List (Lit × DataW H) → Nat
  | [] => 0
  | x :: r => uptoBulkEntry x + uptoBulkEntries r
def uptoBulkEntry {H : Type} : Lit × DataW H → Nat
  | (.string bytes, d) => bytes.length + uptoBulk d + 1
  | (_, d) => uptoBulk d + 1
 end
def uptoSmall : (H : Type) → List (DataW H) → Bool := fun _ ds => decide (uptoBulkAll ds ≤ 1048576)
def OpenSpec.upto (s : _root_.Go.ChangeSpec) : _root_.Go.OpenSpec := { _root_.Go.OpenSpec.ofChange s with cond := some uptoSmall }

/-- 'withylaw14.SweepSweeps', WHERE WHAT IT READS IS OF BULK AT MOST 1048576: true; the input reads as it did. -/
def sweepSweepsUptoRow : OpenClaim := { program := "yteechgmjaagbmabdoor", sum := "14cd0811b88a04a8c0fc05298f5e33bb65a399702beb6e9c1e1218e1f7284df2", func := "withy/withylaw14.SweepSweeps", spec := "sweepSweeps", unfollowed := true, recurses := true, named := ["withy/head.widths"], apart := false, laid := [("withy/head.widths", laid_withy_head_widths)], narrowed := true }
def SweepSweepsUptoSaid : Prop := sweepSweepsUptoRow.holds Tryd.pinned (OpenSpec.upto sweepSweepsSpec)

/-- 'withylaw14.SweepReclaims', WHERE WHAT IT READS IS OF BULK AT MOST 1048576: true; the input reads as it did. -/
def sweepReclaimsUptoRow : OpenClaim := { program := "yteechgmjaagbmabdoor", sum := "14cd0811b88a04a8c0fc05298f5e33bb65a399702beb6e9c1e1218e1f7284df2", func := "withy/withylaw14.SweepReclaims", spec := "sweepReclaims", unfollowed := true, recurses := true, named := ["withy/head.widths"], apart := false, laid := [("withy/head.widths", laid_withy_head_widths)], narrowed := true }
def SweepReclaimsUptoSaid : Prop := sweepReclaimsUptoRow.holds Tryd.pinned (OpenSpec.upto sweepReclaimsSpec)

/-- 'withylaw14.SweepShades', WHERE WHAT IT READS IS OF BULK AT MOST 1048576: true; the input reads as it did. -/
def sweepShadesUptoRow : OpenClaim := { program := "yteechgmjaagbmabdoor", sum := "14cd0811b88a04a8c0fc05298f5e33bb65a399702beb6e9c1e1218e1f7284df2", func := "withy/withylaw14.SweepShades", spec := "sweepShades", unfollowed := true, recurses := true, named := ["withy/head.widths"], apart := false, laid := [("withy/head.widths", laid_withy_head_widths)], narrowed := true }
def SweepShadesUptoSaid : Prop := sweepShadesUptoRow.holds Tryd.pinned (OpenSpec.upto sweepShadesSpec)

/-- 'withylaw14.SweepNone', WHERE WHAT IT READS IS OF BULK AT MOST 1048576: true; the input reads as it did. -/
def sweepNoneUptoRow : OpenClaim := { program := "yteechgmjaagbmabdoor", sum := "14cd0811b88a04a8c0fc05298f5e33bb65a399702beb6e9c1e1218e1f7284df2", func := "withy/withylaw14.SweepNone", spec := "sweepNone", unfollowed := true, recurses := true, named := ["withy/head.widths"], apart := false, laid := [("withy/head.widths", laid_withy_head_widths)], narrowed := true }
def SweepNoneUptoSaid : Prop := sweepNoneUptoRow.holds Tryd.pinned (OpenSpec.upto sweepNoneSpec)

end Rows
end Go.Proofs.YteechgmjaagbmabDoor
