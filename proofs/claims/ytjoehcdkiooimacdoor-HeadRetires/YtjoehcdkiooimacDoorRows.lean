/-
  NARROWER THAN 'FOR EVERY INPUT', by the rows' own cells (each row's printed sentence says how): HeadRetires: laid · HeadFollows: laid.
  DERIVED. THE GIVEN ROWS OF THIS SEAT. 2 by the template 'for every input the law returns true; each argument reads behind the call as it read before'; 0 by the template 'total and deterministic' (their statements: YtjoehcdkiooimacDoorTotals.lean).
  GIVEN WITH THE SEED: the statements are not yours to turn. If you find one false, say at which input.
  Laid BY PROGRAM, IN A SANDBOX (cutbox-rows.mjs): the forced cells as the released guide's own fill.sh prints them over the translation 9154690e732b0b2d… (all of the seat's roots in one cut). By AI agents, Wed Nov 11 2026. No macro, syntax, notation, axiom, sorry.
-/
import Derived.Test.YtjoehcdkiooimacDoorChecked
import GoSem.Claim
import GoSem.ClaimJoined
import GoSem.ClaimMapViews
import Derived.JoinedTies
import Derived.KernelRfl
namespace Go.Proofs.YtjoehcdkiooimacDoor
/- THE CELL 'sum', in the pinned program and in every row, IS THE sha256 OF THE DUMP (.gsa) THAT YtjoehcdkiooimacDoorProg.lean LOADS. Nothing in Lean hashes anything: it is a label: what it is worth is what the hold of that sum in a sandbox is worth. -/
noncomputable def Tryd.pinned : Pinned := { name := "ytjoehcdkiooimacdoor", sum := "9154690e732b0b2d6fa849a6c693ef4f6d7b9ec360afe21abf267bc97595cece", checked := Tryd.checked }
namespace Rows
def none {H : Type} : Left H := { results := [], args := [] }

/- WHAT THE LISTED PACKAGE-LEVEL VARIABLES READ AS WHEN THE CALL BEGINS. Each datum BY PROGRAM (the guide's laid-datum.mjs) off the statement by which the dump's own 'gosem.cut.vars' lays the variable. In a bare row this is a premise. The card (YtjoehcdkiooimacDoorCards.lean) ties it to the program's text. -/
def laid_withy_head_widths {H : Type} : DataW H := .agg [.lit (.int .i64 3), .lit (.int .i64 1), .lit (.int .i64 1), .lit (.int .i64 4), .lit (.int .i64 7), .lit (.int .i64 32), .lit (.int .i64 16)]

/-- 'withylaw04.HeadRetires': WHATEVER THE INPUT: true; the input reads as it did. -/
def headRetiresSpec : ChangeSpec := { name := "headRetires", fn := fun _ => fun
  | [d1, d2, d3] => { results := [.lit (.bool true)], args := [d1, d2, d3] }
  | _ => none }
def headRetiresRow : OpenClaim := { program := "ytjoehcdkiooimacdoor", sum := "9154690e732b0b2d6fa849a6c693ef4f6d7b9ec360afe21abf267bc97595cece", func := "withy/withylaw04.HeadRetires", spec := "headRetires", named := ["withy/head.widths"], apart := false, laid := [("withy/head.widths", laid_withy_head_widths)] }
def HeadRetiresSaid : Prop := headRetiresRow.holds Tryd.pinned (OpenSpec.ofChange headRetiresSpec)

/-- ITS FALSE NEIGHBOUR: 'it returns false'. Refute it at one input. -/
def headRetiresWrong : ChangeSpec := { name := "headRetires", fn := fun _ => fun
  | [d1, d2, d3] => { results := [.lit (.bool false)], args := [d1, d2, d3] }
  | _ => none }
def HeadRetiresWrongFalsely : Prop := headRetiresRow.holds Tryd.pinned (OpenSpec.ofChange headRetiresWrong)

/-- 'withylaw04.HeadFollows': WHATEVER THE INPUT: true; the input reads as it did. -/
def headFollowsSpec : ChangeSpec := { name := "headFollows", fn := fun _ => fun
  | [d1, d2] => { results := [.lit (.bool true)], args := [d1, d2] }
  | _ => none }
def headFollowsRow : OpenClaim := { program := "ytjoehcdkiooimacdoor", sum := "9154690e732b0b2d6fa849a6c693ef4f6d7b9ec360afe21abf267bc97595cece", func := "withy/withylaw04.HeadFollows", spec := "headFollows", named := ["withy/head.widths"], apart := false, laid := [("withy/head.widths", laid_withy_head_widths)] }
def HeadFollowsSaid : Prop := headFollowsRow.holds Tryd.pinned (OpenSpec.ofChange headFollowsSpec)

/-- ITS FALSE NEIGHBOUR: 'it returns false'. Refute it at one input. -/
def headFollowsWrong : ChangeSpec := { name := "headFollows", fn := fun _ => fun
  | [d1, d2] => { results := [.lit (.bool false)], args := [d1, d2] }
  | _ => none }
def HeadFollowsWrongFalsely : Prop := headFollowsRow.holds Tryd.pinned (OpenSpec.ofChange headFollowsWrong)

/- THE SECOND FORM. 'bulk': how many values and letters a reading holds, each counted each time it is reached (what is shared counts as often as it is met; a slice's spare places count too). A statement '..UptoSaid' is the law's where the arguments, and the package variables that the reading takes, are together of bulk at most 1048576: NARROWER than '..Said'. Prove '..Said' where nothing that the law and all that it calls make is longer than what came in: it says more and counts as full. Else prove '..UptoSaid'. A law counts once. -/
mutual
def uptoBulk {H : Type} : DataW H → Nat
  | .lit (.string bytes) => bytes.length + 1
  | .lit _ => 1
  | .nil => 1
  | .ptr d => uptoBulk d + 1
  | .slice elems spare => uptoBulkAll elems + uptoBulkAll spare + 1
  | .agg parts => uptoBulkAll parts + 1
  | .iface _ d => uptoBulk d + 1
  | .map entries => uptoBulkEntries entries + 1
  | .held _ => 1
def uptoBulkAll {H : Type} : List (DataW H) → Nat
  | [] => 0
  | d :: r => uptoBulk d + uptoBulkAll r
def uptoBulkEntries {H : Type} : List (Lit × DataW H) → Nat
  | [] => 0
  | x :: r => uptoBulkEntry x + uptoBulkEntries r
def uptoBulkEntry {H : Type} : Lit × DataW H → Nat
  | (.string bytes, d) => bytes.length + uptoBulk d + 1
  | (_, d) => uptoBulk d + 1
 end
def uptoSmall : (H : Type) → List (DataW H) → Bool := fun _ ds => decide (uptoBulkAll ds ≤ 1048576)
def OpenSpec.upto (s : _root_.Go.ChangeSpec) : _root_.Go.OpenSpec := { _root_.Go.OpenSpec.ofChange s with cond := some uptoSmall }

/-- 'withylaw04.HeadRetires', WHERE WHAT IT READS IS OF BULK AT MOST 1048576: true; the input reads as it did. -/
def headRetiresUptoRow : OpenClaim := { program := "ytjoehcdkiooimacdoor", sum := "9154690e732b0b2d6fa849a6c693ef4f6d7b9ec360afe21abf267bc97595cece", func := "withy/withylaw04.HeadRetires", spec := "headRetires", named := ["withy/head.widths"], apart := false, laid := [("withy/head.widths", laid_withy_head_widths)], narrowed := true }
def HeadRetiresUptoSaid : Prop := headRetiresUptoRow.holds Tryd.pinned (OpenSpec.upto headRetiresSpec)

/-- 'withylaw04.HeadFollows', WHERE WHAT IT READS IS OF BULK AT MOST 1048576: true; the input reads as it did. -/
def headFollowsUptoRow : OpenClaim := { program := "ytjoehcdkiooimacdoor", sum := "9154690e732b0b2d6fa849a6c693ef4f6d7b9ec360afe21abf267bc97595cece", func := "withy/withylaw04.HeadFollows", spec := "headFollows", named := ["withy/head.widths"], apart := false, laid := [("withy/head.widths", laid_withy_head_widths)], narrowed := true }
def HeadFollowsUptoSaid : Prop := headFollowsUptoRow.holds Tryd.pinned (OpenSpec.upto headFollowsSpec)

end Rows
end Go.Proofs.YtjoehcdkiooimacDoor
