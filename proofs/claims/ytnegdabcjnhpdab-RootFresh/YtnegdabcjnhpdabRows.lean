/-
  No cell of these rows narrows 'for every input' (looked for: loops, veiled, ifaces, maps, wideKeys, modest, calm, conditions, laid).
  DERIVED. THE GIVEN ROWS OF THIS SEAT. 4 by the template 'for every input the law returns true; each argument reads behind the call as it read before'; 0 by the template 'total and deterministic' (their statements: YtnegdabcjnhpdabTotals.lean).
  GIVEN WITH THE SEED: the statements are not yours to turn. If you find one false, say at which input.
  Laid BY PROGRAM, IN A SANDBOX (cutbox-rows.mjs): the forced cells as the released guide's own fill.sh prints them over the translation 1d935696e15ec60c… (all of the seat's roots in one cut). By AI agents, Wed Nov 11 2026. No macro, syntax, notation, axiom, sorry.
-/
import Derived.Test.YtnegdabcjnhpdabChecked
import GoSem.Claim
import GoSem.ClaimJoined
import GoSem.ClaimMapViews
import Derived.JoinedTies
import Derived.KernelRfl
namespace Go.Proofs.Ytnegdabcjnhpdab
/- THE CELL 'sum', in the pinned program and in every row, IS THE sha256 OF THE DUMP (.gsa) THAT YtnegdabcjnhpdabProg.lean LOADS. Nothing in Lean hashes anything: it is a label: what it is worth is what the hold of that sum in a sandbox is worth. -/
noncomputable def Try.pinned : Pinned := { name := "ytnegdabcjnhpdab", sum := "1d935696e15ec60c3d5a22422854f94fbf5a0e05c29ab8a94a56689e79a4d26f", checked := Try.checked }
namespace Rows
def none {H : Type} : Left H := { results := [], args := [] }

/-- 'withylaw11.RootFresh': WHATEVER THE INPUT: true; the input reads as it did. -/
def rootFreshSpec : ChangeSpec := { name := "rootFresh", fn := fun _ => fun
  | [d1, d2] => { results := [.lit (.bool true)], args := [d1, d2] }
  | _ => none }
def rootFreshRow : OpenClaim := { program := "ytnegdabcjnhpdab", sum := "1d935696e15ec60c3d5a22422854f94fbf5a0e05c29ab8a94a56689e79a4d26f", func := "withy/withylaw11.RootFresh", spec := "rootFresh", apart := false }
def RootFreshSaid : Prop := rootFreshRow.holds Try.pinned (OpenSpec.ofChange rootFreshSpec)

/-- ITS FALSE NEIGHBOUR: 'it returns false'. Refute it at one input. -/
def rootFreshWrong : ChangeSpec := { name := "rootFresh", fn := fun _ => fun
  | [d1, d2] => { results := [.lit (.bool false)], args := [d1, d2] }
  | _ => none }
def RootFreshWrongFalsely : Prop := rootFreshRow.holds Try.pinned (OpenSpec.ofChange rootFreshWrong)

/-- 'withylaw11.RootApart': WHATEVER THE INPUT: true; the input reads as it did. -/
def rootApartSpec : ChangeSpec := { name := "rootApart", fn := fun _ => fun
  | [d1, d2, d3] => { results := [.lit (.bool true)], args := [d1, d2, d3] }
  | _ => none }
def rootApartRow : OpenClaim := { program := "ytnegdabcjnhpdab", sum := "1d935696e15ec60c3d5a22422854f94fbf5a0e05c29ab8a94a56689e79a4d26f", func := "withy/withylaw11.RootApart", spec := "rootApart", apart := false }
def RootApartSaid : Prop := rootApartRow.holds Try.pinned (OpenSpec.ofChange rootApartSpec)

/-- ITS FALSE NEIGHBOUR: 'it returns false'. Refute it at one input. -/
def rootApartWrong : ChangeSpec := { name := "rootApart", fn := fun _ => fun
  | [d1, d2, d3] => { results := [.lit (.bool false)], args := [d1, d2, d3] }
  | _ => none }
def RootApartWrongFalsely : Prop := rootApartRow.holds Try.pinned (OpenSpec.ofChange rootApartWrong)

/-- 'withylaw11.RootNone': WHATEVER THE INPUT: true; the input reads as it did. -/
def rootNoneSpec : ChangeSpec := { name := "rootNone", fn := fun _ => fun
  | [d1, d2] => { results := [.lit (.bool true)], args := [d1, d2] }
  | _ => none }
def rootNoneRow : OpenClaim := { program := "ytnegdabcjnhpdab", sum := "1d935696e15ec60c3d5a22422854f94fbf5a0e05c29ab8a94a56689e79a4d26f", func := "withy/withylaw11.RootNone", spec := "rootNone", apart := false }
def RootNoneSaid : Prop := rootNoneRow.holds Try.pinned (OpenSpec.ofChange rootNoneSpec)

/-- ITS FALSE NEIGHBOUR: 'it returns false'. Refute it at one input. -/
def rootNoneWrong : ChangeSpec := { name := "rootNone", fn := fun _ => fun
  | [d1, d2] => { results := [.lit (.bool false)], args := [d1, d2] }
  | _ => none }
def RootNoneWrongFalsely : Prop := rootNoneRow.holds Try.pinned (OpenSpec.ofChange rootNoneWrong)

/-- 'withylaw11.RootFull': WHATEVER THE INPUT: true; the input reads as it did. -/
def rootFullSpec : ChangeSpec := { name := "rootFull", fn := fun _ => fun
  | [d1, d2] => { results := [.lit (.bool true)], args := [d1, d2] }
  | _ => none }
def rootFullRow : OpenClaim := { program := "ytnegdabcjnhpdab", sum := "1d935696e15ec60c3d5a22422854f94fbf5a0e05c29ab8a94a56689e79a4d26f", func := "withy/withylaw11.RootFull", spec := "rootFull", apart := false }
def RootFullSaid : Prop := rootFullRow.holds Try.pinned (OpenSpec.ofChange rootFullSpec)

/-- ITS FALSE NEIGHBOUR: 'it returns false'. Refute it at one input. -/
def rootFullWrong : ChangeSpec := { name := "rootFull", fn := fun _ => fun
  | [d1, d2] => { results := [.lit (.bool false)], args := [d1, d2] }
  | _ => none }
def RootFullWrongFalsely : Prop := rootFullRow.holds Try.pinned (OpenSpec.ofChange rootFullWrong)

/- THE SECOND FORM. 'bulk': how many values and letters a reading holds, each counted each time it is reached (what is shared counts as often as it is met; a slice's spare places count too). A statement '..UptoSaid' is the law's where the arguments, and the package variables that the reading takes, are together of bulk at most 1048576: NARROWER than '..Said'. Prove '..Said' where nothing that the law and all that it calls make is longer than what came in: it says more and counts as full. Else prove '..UptoSaid'. A law counts once. -/
mutual
def uptoBulk {H : Type} : DataW H → Nat
  | .lit (.string bytes) => bytes.length + 1
  | .lit _ => 1
  | .nil => 1
  | .ptr d => uptoBulk d + 1
  | .slice elems spare => uptoBulkAll elems + uptoBulkAll spare + 1
  | .agg parts => uptoBulkAll parts + 1
  | .iface _ d => uptoBulk d + 1
  | .map entries => uptoBulkEntries entries + 1
  | .held _ => 1
def uptoBulkAll {H : Type} : List (DataW H) → Nat
  | [] => 0
  | d :: r => uptoBulk d + uptoBulkAll r
def uptoBulkEntries {H : Type} : List (Lit × DataW H) → Nat
  | [] => 0
  | x :: r => uptoBulkEntry x + uptoBulkEntries r
def uptoBulkEntry {H : Type} : Lit × DataW H → Nat
  | (.string bytes, d) => bytes.length + uptoBulk d + 1
  | (_, d) => uptoBulk d + 1
 end
def uptoSmall : (H : Type) → List (DataW H) → Bool := fun _ ds => decide (uptoBulkAll ds ≤ 1048576)
def OpenSpec.upto (s : _root_.Go.ChangeSpec) : _root_.Go.OpenSpec := { _root_.Go.OpenSpec.ofChange s with cond := some uptoSmall }

/-- 'withylaw11.RootFresh', WHERE WHAT IT READS IS OF BULK AT MOST 1048576: true; the input reads as it did. -/
def rootFreshUptoRow : OpenClaim := { program := "ytnegdabcjnhpdab", sum := "1d935696e15ec60c3d5a22422854f94fbf5a0e05c29ab8a94a56689e79a4d26f", func := "withy/withylaw11.RootFresh", spec := "rootFresh", apart := false, narrowed := true }
def RootFreshUptoSaid : Prop := rootFreshUptoRow.holds Try.pinned (OpenSpec.upto rootFreshSpec)

/-- 'withylaw11.RootApart', WHERE WHAT IT READS IS OF BULK AT MOST 1048576: true; the input reads as it did. -/
def rootApartUptoRow : OpenClaim := { program := "ytnegdabcjnhpdab", sum := "1d935696e15ec60c3d5a22422854f94fbf5a0e05c29ab8a94a56689e79a4d26f", func := "withy/withylaw11.RootApart", spec := "rootApart", apart := false, narrowed := true }
def RootApartUptoSaid : Prop := rootApartUptoRow.holds Try.pinned (OpenSpec.upto rootApartSpec)

/-- 'withylaw11.RootNone', WHERE WHAT IT READS IS OF BULK AT MOST 1048576: true; the input reads as it did. -/
def rootNoneUptoRow : OpenClaim := { program := "ytnegdabcjnhpdab", sum := "1d935696e15ec60c3d5a22422854f94fbf5a0e05c29ab8a94a56689e79a4d26f", func := "withy/withylaw11.RootNone", spec := "rootNone", apart := false, narrowed := true }
def RootNoneUptoSaid : Prop := rootNoneUptoRow.holds Try.pinned (OpenSpec.upto rootNoneSpec)

/-- 'withylaw11.RootFull', WHERE WHAT IT READS IS OF BULK AT MOST 1048576: true; the input reads as it did. -/
def rootFullUptoRow : OpenClaim := { program := "ytnegdabcjnhpdab", sum := "1d935696e15ec60c3d5a22422854f94fbf5a0e05c29ab8a94a56689e79a4d26f", func := "withy/withylaw11.RootFull", spec := "rootFull", apart := false, narrowed := true }
def RootFullUptoSaid : Prop := rootFullUptoRow.holds Try.pinned (OpenSpec.upto rootFullSpec)

end Rows
end Go.Proofs.Ytnegdabcjnhpdab
