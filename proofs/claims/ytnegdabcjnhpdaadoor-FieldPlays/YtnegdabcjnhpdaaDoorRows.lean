/-
  NARROWER THAN 'FOR EVERY INPUT', by the rows' own cells (each row's printed sentence says how): FieldPlays: laid · FieldAlone: laid · FieldViews: laid · FieldNone: laid.
  DERIVED. THE GIVEN ROWS OF THIS SEAT. 4 by the template 'for every input the law returns true; each argument reads behind the call as it read before'; 0 by the template 'total and deterministic' (their statements: YtnegdabcjnhpdaaDoorTotals.lean).
  GIVEN WITH THE SEED: the statements are not yours to turn. If you find one false, say at which input.
  Laid BY PROGRAM, IN A SANDBOX (cutbox-rows.mjs): the forced cells as the released guide's own fill.sh prints them over the translation 31e89052e6022528… (all of the seat's roots in one cut). By AI agents, Wed Nov 11 2026. No macro, syntax, notation, axiom, sorry.
-/
import Derived.Test.YtnegdabcjnhpdaaDoorChecked
import GoSem.Claim
import GoSem.ClaimJoined
import GoSem.ClaimMapViews
import Derived.JoinedTies
import Derived.KernelRfl
namespace Go.Proofs.YtnegdabcjnhpdaaDoor
/- THE CELL 'sum', in the pinned program and in every row, IS THE sha256 OF THE DUMP (.gsa) THAT YtnegdabcjnhpdaaDoorProg.lean LOADS. Nothing in Lean hashes anything: it is a label: what it is worth is what the hold of that sum in a sandbox is worth. -/
noncomputable def Tryd.pinned : Pinned := { name := "ytnegdabcjnhpdaadoor", sum := "31e89052e6022528c3a8c9125839d07dec9054b229fa10e1e66eb786ce2c602e", checked := Tryd.checked }
namespace Rows
def none {H : Type} : Left H := { results := [], args := [] }

/- WHAT THE LISTED PACKAGE-LEVEL VARIABLES READ AS WHEN THE CALL BEGINS. Each datum BY PROGRAM (the guide's laid-datum.mjs) off the statement by which the dump's own 'gosem.cut.vars' lays the variable. In a bare row this is a premise. The card (YtnegdabcjnhpdaaDoorCards.lean) ties it to the program's text. -/
def laid_withy_head_widths {H : Type} : DataW H := .agg [.lit (.int .i64 3), .lit (.int .i64 1), .lit (.int .i64 1), .lit (.int .i64 4), .lit (.int .i64 7), .lit (.int .i64 32), .lit (.int .i64 16)]

/-- 'withylaw10.FieldPlays': WHATEVER THE INPUT: true; the input reads as it did. -/
def fieldPlaysSpec : ChangeSpec := { name := "fieldPlays", fn := fun _ => fun
  | [d1, d2] => { results := [.lit (.bool true)], args := [d1, d2] }
  | _ => none }
def fieldPlaysRow : OpenClaim := { program := "ytnegdabcjnhpdaadoor", sum := "31e89052e6022528c3a8c9125839d07dec9054b229fa10e1e66eb786ce2c602e", func := "withy/withylaw10.FieldPlays", spec := "fieldPlays", named := ["withy/head.widths"], apart := false, laid := [("withy/head.widths", laid_withy_head_widths)] }
def FieldPlaysSaid : Prop := fieldPlaysRow.holds Tryd.pinned (OpenSpec.ofChange fieldPlaysSpec)

/-- ITS FALSE NEIGHBOUR: 'it returns false'. Refute it at one input. -/
def fieldPlaysWrong : ChangeSpec := { name := "fieldPlays", fn := fun _ => fun
  | [d1, d2] => { results := [.lit (.bool false)], args := [d1, d2] }
  | _ => none }
def FieldPlaysWrongFalsely : Prop := fieldPlaysRow.holds Tryd.pinned (OpenSpec.ofChange fieldPlaysWrong)

/-- 'withylaw10.FieldAlone': WHATEVER THE INPUT: true; the input reads as it did. -/
def fieldAloneSpec : ChangeSpec := { name := "fieldAlone", fn := fun _ => fun
  | [d1, d2] => { results := [.lit (.bool true)], args := [d1, d2] }
  | _ => none }
def fieldAloneRow : OpenClaim := { program := "ytnegdabcjnhpdaadoor", sum := "31e89052e6022528c3a8c9125839d07dec9054b229fa10e1e66eb786ce2c602e", func := "withy/withylaw10.FieldAlone", spec := "fieldAlone", named := ["withy/head.widths"], apart := false, laid := [("withy/head.widths", laid_withy_head_widths)] }
def FieldAloneSaid : Prop := fieldAloneRow.holds Tryd.pinned (OpenSpec.ofChange fieldAloneSpec)

/-- ITS FALSE NEIGHBOUR: 'it returns false'. Refute it at one input. -/
def fieldAloneWrong : ChangeSpec := { name := "fieldAlone", fn := fun _ => fun
  | [d1, d2] => { results := [.lit (.bool false)], args := [d1, d2] }
  | _ => none }
def FieldAloneWrongFalsely : Prop := fieldAloneRow.holds Tryd.pinned (OpenSpec.ofChange fieldAloneWrong)

/-- 'withylaw10.FieldViews': WHATEVER THE INPUT: true; the input reads as it did. -/
def fieldViewsSpec : ChangeSpec := { name := "fieldViews", fn := fun _ => fun
  | [d] => { results := [.lit (.bool true)], args := [d] }
  | _ => none }
def fieldViewsRow : OpenClaim := { program := "ytnegdabcjnhpdaadoor", sum := "31e89052e6022528c3a8c9125839d07dec9054b229fa10e1e66eb786ce2c602e", func := "withy/withylaw10.FieldViews", spec := "fieldViews", named := ["withy/head.widths"], apart := false, laid := [("withy/head.widths", laid_withy_head_widths)] }
def FieldViewsSaid : Prop := fieldViewsRow.holds Tryd.pinned (OpenSpec.ofChange fieldViewsSpec)

/-- ITS FALSE NEIGHBOUR: 'it returns false'. Refute it at one input. -/
def fieldViewsWrong : ChangeSpec := { name := "fieldViews", fn := fun _ => fun
  | [d] => { results := [.lit (.bool false)], args := [d] }
  | _ => none }
def FieldViewsWrongFalsely : Prop := fieldViewsRow.holds Tryd.pinned (OpenSpec.ofChange fieldViewsWrong)

/-- 'withylaw10.FieldNone': WHATEVER THE INPUT: true; the input reads as it did. -/
def fieldNoneSpec : ChangeSpec := { name := "fieldNone", fn := fun _ => fun
  | [d1, d2, d3, d4, d5] => { results := [.lit (.bool true)], args := [d1, d2, d3, d4, d5] }
  | _ => none }
def fieldNoneRow : OpenClaim := { program := "ytnegdabcjnhpdaadoor", sum := "31e89052e6022528c3a8c9125839d07dec9054b229fa10e1e66eb786ce2c602e", func := "withy/withylaw10.FieldNone", spec := "fieldNone", named := ["withy/head.widths"], apart := false, laid := [("withy/head.widths", laid_withy_head_widths)] }
def FieldNoneSaid : Prop := fieldNoneRow.holds Tryd.pinned (OpenSpec.ofChange fieldNoneSpec)

/-- ITS FALSE NEIGHBOUR: 'it returns false'. Refute it at one input. -/
def fieldNoneWrong : ChangeSpec := { name := "fieldNone", fn := fun _ => fun
  | [d1, d2, d3, d4, d5] => { results := [.lit (.bool false)], args := [d1, d2, d3, d4, d5] }
  | _ => none }
def FieldNoneWrongFalsely : Prop := fieldNoneRow.holds Tryd.pinned (OpenSpec.ofChange fieldNoneWrong)

/- THE SECOND FORM. 'bulk': how many values and letters a reading holds, each counted each time it is reached (what is shared counts as often as it is met; a slice's spare places count too). A statement '..UptoSaid' is the law's where the arguments, and the package variables that the reading takes, are together of bulk at most 1048576: NARROWER than '..Said'. Prove '..Said' where nothing that the law and all that it calls make is longer than what came in: it says more and counts as full. Else prove '..UptoSaid'. A law counts once. -/
mutual
def uptoBulk {H : Type} : DataW H → Nat
  | .lit (.string bytes) => bytes.length + 1
  | .lit _ => 1
  | .nil => 1
  | .ptr d => uptoBulk d + 1
  | .slice elems spare => uptoBulkAll elems + uptoBulkAll spare + 1
  | .agg parts => uptoBulkAll parts + 1
  | .iface _ d => uptoBulk d + 1
  | .map entries => uptoBulkEntries entries + 1
  | .held _ => 1
def uptoBulkAll {H : Type} : List (DataW H) → Nat
  | [] => 0
  | d :: r => uptoBulk d + uptoBulkAll r
def uptoBulkEntries {H : Type} : List (Lit × DataW H) → Nat
  | [] => 0
  | x :: r => uptoBulkEntry x + uptoBulkEntries r
def uptoBulkEntry {H : Type} : Lit × DataW H → Nat
  | (.string bytes, d) => bytes.length + uptoBulk d + 1
  | (_, d) => uptoBulk d + 1
 end
def uptoSmall : (H : Type) → List (DataW H) → Bool := fun _ ds => decide (uptoBulkAll ds ≤ 1048576)
def OpenSpec.upto (s : _root_.Go.ChangeSpec) : _root_.Go.OpenSpec := { _root_.Go.OpenSpec.ofChange s with cond := some uptoSmall }

/-- 'withylaw10.FieldPlays', WHERE WHAT IT READS IS OF BULK AT MOST 1048576: true; the input reads as it did. -/
def fieldPlaysUptoRow : OpenClaim := { program := "ytnegdabcjnhpdaadoor", sum := "31e89052e6022528c3a8c9125839d07dec9054b229fa10e1e66eb786ce2c602e", func := "withy/withylaw10.FieldPlays", spec := "fieldPlays", named := ["withy/head.widths"], apart := false, laid := [("withy/head.widths", laid_withy_head_widths)], narrowed := true }
def FieldPlaysUptoSaid : Prop := fieldPlaysUptoRow.holds Tryd.pinned (OpenSpec.upto fieldPlaysSpec)

/-- 'withylaw10.FieldAlone', WHERE WHAT IT READS IS OF BULK AT MOST 1048576: true; the input reads as it did. -/
def fieldAloneUptoRow : OpenClaim := { program := "ytnegdabcjnhpdaadoor", sum := "31e89052e6022528c3a8c9125839d07dec9054b229fa10e1e66eb786ce2c602e", func := "withy/withylaw10.FieldAlone", spec := "fieldAlone", named := ["withy/head.widths"], apart := false, laid := [("withy/head.widths", laid_withy_head_widths)], narrowed := true }
def FieldAloneUptoSaid : Prop := fieldAloneUptoRow.holds Tryd.pinned (OpenSpec.upto fieldAloneSpec)

/-- 'withylaw10.FieldViews', WHERE WHAT IT READS IS OF BULK AT MOST 1048576: true; the input reads as it did. -/
def fieldViewsUptoRow : OpenClaim := { program := "ytnegdabcjnhpdaadoor", sum := "31e89052e6022528c3a8c9125839d07dec9054b229fa10e1e66eb786ce2c602e", func := "withy/withylaw10.FieldViews", spec := "fieldViews", named := ["withy/head.widths"], apart := false, laid := [("withy/head.widths", laid_withy_head_widths)], narrowed := true }
def FieldViewsUptoSaid : Prop := fieldViewsUptoRow.holds Tryd.pinned (OpenSpec.upto fieldViewsSpec)

/-- 'withylaw10.FieldNone', WHERE WHAT IT READS IS OF BULK AT MOST 1048576: true; the input reads as it did. -/
def fieldNoneUptoRow : OpenClaim := { program := "ytnegdabcjnhpdaadoor", sum := "31e89052e6022528c3a8c9125839d07dec9054b229fa10e1e66eb786ce2c602e", func := "withy/withylaw10.FieldNone", spec := "fieldNone", named := ["withy/head.widths"], apart := false, laid := [("withy/head.widths", laid_withy_head_widths)], narrowed := true }
def FieldNoneUptoSaid : Prop := fieldNoneUptoRow.holds Tryd.pinned (OpenSpec.upto fieldNoneSpec)

end Rows
end Go.Proofs.YtnegdabcjnhpdaaDoor
