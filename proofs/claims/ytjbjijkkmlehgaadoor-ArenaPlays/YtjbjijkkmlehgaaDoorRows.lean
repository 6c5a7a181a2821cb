/-
  NARROWER THAN 'FOR EVERY INPUT', by the rows' own cells (each row's printed sentence says how): ArenaPlays: laid · ArenaAlone: laid · ArenaFrees: laid · ArenaBodies: laid · ArenaNone: laid.
  DERIVED. THE GIVEN ROWS OF THIS SEAT. 5 by the template 'for every input the law returns true; each argument reads behind the call as it read before'; 0 by the template 'total and deterministic' (their statements: YtjbjijkkmlehgaaDoorTotals.lean).
  GIVEN WITH THE SEED: the statements are not yours to turn. If you find one false, say at which input.
  Laid BY PROGRAM, IN A SANDBOX (cutbox-rows.mjs): the forced cells as the released guide's own fill.sh prints them over the translation 484cebf16df6f85a… (all of the seat's roots in one cut). By AI agents, Wed Nov 11 2026. No macro, syntax, notation, axiom, sorry.
-/
import Derived.Test.YtjbjijkkmlehgaaDoorChecked
import GoSem.Claim
import GoSem.ClaimJoined
import GoSem.ClaimMapViews
import Derived.JoinedTies
import Derived.KernelRfl
namespace Go.Proofs.YtjbjijkkmlehgaaDoor
/- THE CELL 'sum', in the pinned program and in every row, IS THE sha256 OF THE DUMP (.gsa) THAT YtjbjijkkmlehgaaDoorProg.lean LOADS. Nothing in Lean hashes anything: it is a label: what it is worth is what the hold of that sum in a sandbox is worth. -/
noncomputable def Tryd.pinned : Pinned := { name := "ytjbjijkkmlehgaadoor", sum := "484cebf16df6f85a3a6e4689f69d23c354686e641957ca3f4bbebc886bb52830", checked := Tryd.checked }
namespace Rows
def none {H : Type} : Left H := { results := [], args := [] }

/- WHAT THE LISTED PACKAGE-LEVEL VARIABLES READ AS WHEN THE CALL BEGINS. Each datum BY PROGRAM (the guide's laid-datum.mjs) off the statement by which the dump's own 'gosem.cut.vars' lays the variable. In a bare row this is a premise. The card (YtjbjijkkmlehgaaDoorCards.lean) ties it to the program's text. -/
def laid_withy_head_widths {H : Type} : DataW H := .agg [.lit (.int .i64 3), .lit (.int .i64 1), .lit (.int .i64 1), .lit (.int .i64 4), .lit (.int .i64 7), .lit (.int .i64 32), .lit (.int .i64 16)]

/-- 'withylaw12.ArenaPlays': WHATEVER THE INPUT: true; the input reads as it did. -/
def arenaPlaysSpec : ChangeSpec := { name := "arenaPlays", fn := fun _ => fun
  | [d1, d2, d3] => { results := [.lit (.bool true)], args := [d1, d2, d3] }
  | _ => none }
def arenaPlaysRow : OpenClaim := { program := "ytjbjijkkmlehgaadoor", sum := "484cebf16df6f85a3a6e4689f69d23c354686e641957ca3f4bbebc886bb52830", func := "withy/withylaw12.ArenaPlays", spec := "arenaPlays", named := ["withy/head.widths"], apart := false, laid := [("withy/head.widths", laid_withy_head_widths)] }
def ArenaPlaysSaid : Prop := arenaPlaysRow.holds Tryd.pinned (OpenSpec.ofChange arenaPlaysSpec)

/-- ITS FALSE NEIGHBOUR: 'it returns false'. Refute it at one input. -/
def arenaPlaysWrong : ChangeSpec := { name := "arenaPlays", fn := fun _ => fun
  | [d1, d2, d3] => { results := [.lit (.bool false)], args := [d1, d2, d3] }
  | _ => none }
def ArenaPlaysWrongFalsely : Prop := arenaPlaysRow.holds Tryd.pinned (OpenSpec.ofChange arenaPlaysWrong)

/-- 'withylaw12.ArenaAlone': WHATEVER THE INPUT: true; the input reads as it did. -/
def arenaAloneSpec : ChangeSpec := { name := "arenaAlone", fn := fun _ => fun
  | [d1, d2, d3] => { results := [.lit (.bool true)], args := [d1, d2, d3] }
  | _ => none }
def arenaAloneRow : OpenClaim := { program := "ytjbjijkkmlehgaadoor", sum := "484cebf16df6f85a3a6e4689f69d23c354686e641957ca3f4bbebc886bb52830", func := "withy/withylaw12.ArenaAlone", spec := "arenaAlone", named := ["withy/head.widths"], apart := false, laid := [("withy/head.widths", laid_withy_head_widths)] }
def ArenaAloneSaid : Prop := arenaAloneRow.holds Tryd.pinned (OpenSpec.ofChange arenaAloneSpec)

/-- ITS FALSE NEIGHBOUR: 'it returns false'. Refute it at one input. -/
def arenaAloneWrong : ChangeSpec := { name := "arenaAlone", fn := fun _ => fun
  | [d1, d2, d3] => { results := [.lit (.bool false)], args := [d1, d2, d3] }
  | _ => none }
def ArenaAloneWrongFalsely : Prop := arenaAloneRow.holds Tryd.pinned (OpenSpec.ofChange arenaAloneWrong)

/-- 'withylaw12.ArenaFrees': WHATEVER THE INPUT: true; the input reads as it did. -/
def arenaFreesSpec : ChangeSpec := { name := "arenaFrees", fn := fun _ => fun
  | [d1, d2] => { results := [.lit (.bool true)], args := [d1, d2] }
  | _ => none }
def arenaFreesRow : OpenClaim := { program := "ytjbjijkkmlehgaadoor", sum := "484cebf16df6f85a3a6e4689f69d23c354686e641957ca3f4bbebc886bb52830", func := "withy/withylaw12.ArenaFrees", spec := "arenaFrees", named := ["withy/head.widths"], apart := false, laid := [("withy/head.widths", laid_withy_head_widths)] }
def ArenaFreesSaid : Prop := arenaFreesRow.holds Tryd.pinned (OpenSpec.ofChange arenaFreesSpec)

/-- ITS FALSE NEIGHBOUR: 'it returns false'. Refute it at one input. -/
def arenaFreesWrong : ChangeSpec := { name := "arenaFrees", fn := fun _ => fun
  | [d1, d2] => { results := [.lit (.bool false)], args := [d1, d2] }
  | _ => none }
def ArenaFreesWrongFalsely : Prop := arenaFreesRow.holds Tryd.pinned (OpenSpec.ofChange arenaFreesWrong)

/-- 'withylaw12.ArenaBodies': WHATEVER THE INPUT: true; the input reads as it did. -/
def arenaBodiesSpec : ChangeSpec := { name := "arenaBodies", fn := fun _ => fun
  | [d1, d2, d3, d4] => { results := [.lit (.bool true)], args := [d1, d2, d3, d4] }
  | _ => none }
def arenaBodiesRow : OpenClaim := { program := "ytjbjijkkmlehgaadoor", sum := "484cebf16df6f85a3a6e4689f69d23c354686e641957ca3f4bbebc886bb52830", func := "withy/withylaw12.ArenaBodies", spec := "arenaBodies", named := ["withy/head.widths"], apart := false, laid := [("withy/head.widths", laid_withy_head_widths)] }
def ArenaBodiesSaid : Prop := arenaBodiesRow.holds Tryd.pinned (OpenSpec.ofChange arenaBodiesSpec)

/-- ITS FALSE NEIGHBOUR: 'it returns false'. Refute it at one input. -/
def arenaBodiesWrong : ChangeSpec := { name := "arenaBodies", fn := fun _ => fun
  | [d1, d2, d3, d4] => { results := [.lit (.bool false)], args := [d1, d2, d3, d4] }
  | _ => none }
def ArenaBodiesWrongFalsely : Prop := arenaBodiesRow.holds Tryd.pinned (OpenSpec.ofChange arenaBodiesWrong)

/-- 'withylaw12.ArenaNone': WHATEVER THE INPUT: true; the input reads as it did. -/
def arenaNoneSpec : ChangeSpec := { name := "arenaNone", fn := fun _ => fun
  | [d1, d2, d3, d4, d5] => { results := [.lit (.bool true)], args := [d1, d2, d3, d4, d5] }
  | _ => none }
def arenaNoneRow : OpenClaim := { program := "ytjbjijkkmlehgaadoor", sum := "484cebf16df6f85a3a6e4689f69d23c354686e641957ca3f4bbebc886bb52830", func := "withy/withylaw12.ArenaNone", spec := "arenaNone", named := ["withy/head.widths"], apart := false, laid := [("withy/head.widths", laid_withy_head_widths)] }
def ArenaNoneSaid : Prop := arenaNoneRow.holds Tryd.pinned (OpenSpec.ofChange arenaNoneSpec)

/-- ITS FALSE NEIGHBOUR: 'it returns false'. Refute it at one input. -/
def arenaNoneWrong : ChangeSpec := { name := "arenaNone", fn := fun _ => fun
  | [d1, d2, d3, d4, d5] => { results := [.lit (.bool false)], args := [d1, d2, d3, d4, d5] }
  | _ => none }
def ArenaNoneWrongFalsely : Prop := arenaNoneRow.holds Tryd.pinned (OpenSpec.ofChange arenaNoneWrong)

/- THE SECOND FORM. 'bulk': how many values and letters a reading holds, each counted each time it is reached (what is shared counts as often as it is met; a slice's spare places count too). A statement '..UptoSaid' is the law's where the arguments, and the package variables that the reading takes, are together of bulk at most 1048576: NARROWER than '..Said'. Prove '..Said' where nothing that the law and all that it calls make is longer than what came in: it says more and counts as full. Else prove '..UptoSaid'. A law counts once. -/
mutual
def uptoBulk {H : Type} : DataW H → Nat
  | .lit (.string bytes) => bytes.length + 1
  | .lit _ => 1
  | .nil => 1
  | .ptr d => uptoBulk d + 1
  | .slice elems spare => uptoBulkAll elems + uptoBulkAll spare + 1
  | .agg parts => uptoBulkAll parts + 1
  | .iface _ d => uptoBulk d + 1
  | .map entries => uptoBulkEntries entries + 1
  | .held _ => 1
def uptoBulkAll {H : Type} : List (DataW H) → Nat
  | [] => 0
  | d :: r => uptoBulk d + uptoBulkAll r
def uptoBulkEntries {H : Type} : List (Lit × DataW H) → Nat
  | [] => 0
  | x :: r => uptoBulkEntry x + uptoBulkEntries r
def uptoBulkEntry {H : Type} : Lit × DataW H → Nat
  | (.string bytes, d) => bytes.length + uptoBulk d + 1
  | (_, d) => uptoBulk d + 1
 end
def uptoSmall : (H : Type) → List (DataW H) → Bool := fun _ ds => decide (uptoBulkAll ds ≤ 1048576)
def OpenSpec.upto (s : _root_.Go.ChangeSpec) : _root_.Go.OpenSpec := { _root_.Go.OpenSpec.ofChange s with cond := some uptoSmall }

/-- 'withylaw12.ArenaPlays', WHERE WHAT IT READS IS OF BULK AT MOST 1048576: true; the input reads as it did. -/
def arenaPlaysUptoRow : OpenClaim := { program := "ytjbjijkkmlehgaadoor", sum := "484cebf16df6f85a3a6e4689f69d23c354686e641957ca3f4bbebc886bb52830", func := "withy/withylaw12.ArenaPlays", spec := "arenaPlays", named := ["withy/head.widths"], apart := false, laid := [("withy/head.widths", laid_withy_head_widths)], narrowed := true }
def ArenaPlaysUptoSaid : Prop := arenaPlaysUptoRow.holds Tryd.pinned (OpenSpec.upto arenaPlaysSpec)

/-- 'withylaw12.ArenaAlone', WHERE WHAT IT READS IS OF BULK AT MOST 1048576: true; the input reads as it did. -/
def arenaAloneUptoRow : OpenClaim := { program := "ytjbjijkkmlehgaadoor", sum := "484cebf16df6f85a3a6e4689f69d23c354686e641957ca3f4bbebc886bb52830", func := "withy/withylaw12.ArenaAlone", spec := "arenaAlone", named := ["withy/head.widths"], apart := false, laid := [("withy/head.widths", laid_withy_head_widths)], narrowed := true }
def ArenaAloneUptoSaid : Prop := arenaAloneUptoRow.holds Tryd.pinned (OpenSpec.upto arenaAloneSpec)

/-- 'withylaw12.ArenaFrees', WHERE WHAT IT READS IS OF BULK AT MOST 1048576: true; the input reads as it did. -/
def arenaFreesUptoRow : OpenClaim := { program := "ytjbjijkkmlehgaadoor", sum := "484cebf16df6f85a3a6e4689f69d23c354686e641957ca3f4bbebc886bb52830", func := "withy/withylaw12.ArenaFrees", spec := "arenaFrees", named := ["withy/head.widths"], apart := false, laid := [("withy/head.widths", laid_withy_head_widths)], narrowed := true }
def ArenaFreesUptoSaid : Prop := arenaFreesUptoRow.holds Tryd.pinned (OpenSpec.upto arenaFreesSpec)

/-- 'withylaw12.ArenaBodies', WHERE WHAT IT READS IS OF BULK AT MOST 1048576: true; the input reads as it did. -/
def arenaBodiesUptoRow : OpenClaim := { program := "ytjbjijkkmlehgaadoor", sum := "484cebf16df6f85a3a6e4689f69d23c354686e641957ca3f4bbebc886bb52830", func := "withy/withylaw12.ArenaBodies", spec := "arenaBodies", named := ["withy/head.widths"], apart := false, laid := [("withy/head.widths", laid_withy_head_widths)], narrowed := true }
def ArenaBodiesUptoSaid : Prop := arenaBodiesUptoRow.holds Tryd.pinned (OpenSpec.upto arenaBodiesSpec)

/-- 'withylaw12.ArenaNone', WHERE WHAT IT READS IS OF BULK AT MOST 1048576: true; the input reads as it did. -/
def arenaNoneUptoRow : OpenClaim := { program := "ytjbjijkkmlehgaadoor", sum := "484cebf16df6f85a3a6e4689f69d23c354686e641957ca3f4bbebc886bb52830", func := "withy/withylaw12.ArenaNone", spec := "arenaNone", named := ["withy/head.widths"], apart := false, laid := [("withy/head.widths", laid_withy_head_widths)], narrowed := true }
def ArenaNoneUptoSaid : Prop := arenaNoneUptoRow.holds Tryd.pinned (OpenSpec.upto arenaNoneSpec)

end Rows
end Go.Proofs.YtjbjijkkmlehgaaDoor
