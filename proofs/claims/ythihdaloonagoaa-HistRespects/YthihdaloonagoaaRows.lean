/-
  No cell of these rows narrows 'for every input' (looked for: loops, veiled, ifaces, maps, wideKeys, modest, calm, conditions, laid).
  DERIVED. THE GIVEN ROWS OF THIS SEAT. 5 by the template 'for every input the law returns true; each argument reads behind the call as it read before'; 0 by the template 'total and deterministic' (their statements: YthihdaloonagoaaTotals.lean).
  GIVEN WITH THE SEED: the statements are not yours to turn. If you find one false, say at which input.
  Laid BY PROGRAM, IN A SANDBOX (cutbox-rows.mjs): the forced cells as the released guide's own fill.sh prints them over the translation a51d4745f1b10271… (all of the seat's roots in one cut). By AI agents, Wed Nov 11 2026. No macro, syntax, notation, axiom, sorry.
-/
import Derived.Test.YthihdaloonagoaaChecked
import GoSem.Claim
import GoSem.ClaimJoined
import GoSem.ClaimMapViews
import Derived.JoinedTies
import Derived.KernelRfl
namespace Go.Proofs.Ythihdaloonagoaa
/- THE CELL 'sum', in the pinned program and in every row, IS THE sha256 OF THE DUMP (.gsa) THAT YthihdaloonagoaaProg.lean LOADS. Nothing in Lean hashes anything: it is a label: what it is worth is what the hold of that sum in a sandbox is worth. -/
noncomputable def Try.pinned : Pinned := { name := "ythihdaloonagoaa", sum := "a51d4745f1b10271a686f5a7f7fe2cce6c8debc911d484b855c3a8343be794b3", checked := Try.checked }
namespace Rows
def none {H : Type} : Left H := { results := [], args := [] }

/-- 'withylaw18.HistRights': WHATEVER THE INPUT: true; the input reads as it did. -/
def histRightsSpec : ChangeSpec := { name := "histRights", fn := fun _ => fun
  | [d1, d2] => { results := [.lit (.bool true)], args := [d1, d2] }
  | _ => none }
def histRightsRow : OpenClaim := { program := "ythihdaloonagoaa", sum := "a51d4745f1b10271a686f5a7f7fe2cce6c8debc911d484b855c3a8343be794b3", func := "withy/withylaw18.HistRights", spec := "histRights", unfollowed := true, recurses := true, apart := false }
def HistRightsSaid : Prop := histRightsRow.holds Try.pinned (OpenSpec.ofChange histRightsSpec)

/-- ITS FALSE NEIGHBOUR: 'it returns false'. Refute it at one input. -/
def histRightsWrong : ChangeSpec := { name := "histRights", fn := fun _ => fun
  | [d1, d2] => { results := [.lit (.bool false)], args := [d1, d2] }
  | _ => none }
def HistRightsWrongFalsely : Prop := histRightsRow.holds Try.pinned (OpenSpec.ofChange histRightsWrong)

/-- 'withylaw18.HistOrders': WHATEVER THE INPUT: true; the input reads as it did. -/
def histOrdersSpec : ChangeSpec := { name := "histOrders", fn := fun _ => fun
  | [d] => { results := [.lit (.bool true)], args := [d] }
  | _ => none }
def histOrdersRow : OpenClaim := { program := "ythihdaloonagoaa", sum := "a51d4745f1b10271a686f5a7f7fe2cce6c8debc911d484b855c3a8343be794b3", func := "withy/withylaw18.HistOrders", spec := "histOrders", unfollowed := true, recurses := true, apart := false }
def HistOrdersSaid : Prop := histOrdersRow.holds Try.pinned (OpenSpec.ofChange histOrdersSpec)

/-- ITS FALSE NEIGHBOUR: 'it returns false'. Refute it at one input. -/
def histOrdersWrong : ChangeSpec := { name := "histOrders", fn := fun _ => fun
  | [d] => { results := [.lit (.bool false)], args := [d] }
  | _ => none }
def HistOrdersWrongFalsely : Prop := histOrdersRow.holds Try.pinned (OpenSpec.ofChange histOrdersWrong)

/-- 'withylaw18.HistRespects': WHATEVER THE INPUT: true; the input reads as it did. -/
def histRespectsSpec : ChangeSpec := { name := "histRespects", fn := fun _ => fun
  | [d1, d2] => { results := [.lit (.bool true)], args := [d1, d2] }
  | _ => none }
def histRespectsRow : OpenClaim := { program := "ythihdaloonagoaa", sum := "a51d4745f1b10271a686f5a7f7fe2cce6c8debc911d484b855c3a8343be794b3", func := "withy/withylaw18.HistRespects", spec := "histRespects", unfollowed := true, recurses := true, apart := false }
def HistRespectsSaid : Prop := histRespectsRow.holds Try.pinned (OpenSpec.ofChange histRespectsSpec)

/-- ITS FALSE NEIGHBOUR: 'it returns false'. Refute it at one input. -/
def histRespectsWrong : ChangeSpec := { name := "histRespects", fn := fun _ => fun
  | [d1, d2] => { results := [.lit (.bool false)], args := [d1, d2] }
  | _ => none }
def HistRespectsWrongFalsely : Prop := histRespectsRow.holds Try.pinned (OpenSpec.ofChange histRespectsWrong)

/-- 'withylaw18.HistPoints': WHATEVER THE INPUT: true; the input reads as it did. -/
def histPointsSpec : ChangeSpec := { name := "histPoints", fn := fun _ => fun
  | [d1, d2] => { results := [.lit (.bool true)], args := [d1, d2] }
  | _ => none }
def histPointsRow : OpenClaim := { program := "ythihdaloonagoaa", sum := "a51d4745f1b10271a686f5a7f7fe2cce6c8debc911d484b855c3a8343be794b3", func := "withy/withylaw18.HistPoints", spec := "histPoints", unfollowed := true, recurses := true, apart := false }
def HistPointsSaid : Prop := histPointsRow.holds Try.pinned (OpenSpec.ofChange histPointsSpec)

/-- ITS FALSE NEIGHBOUR: 'it returns false'. Refute it at one input. -/
def histPointsWrong : ChangeSpec := { name := "histPoints", fn := fun _ => fun
  | [d1, d2] => { results := [.lit (.bool false)], args := [d1, d2] }
  | _ => none }
def HistPointsWrongFalsely : Prop := histPointsRow.holds Try.pinned (OpenSpec.ofChange histPointsWrong)

/-- 'withylaw18.HistMoves': WHATEVER THE INPUT: true; the input reads as it did. -/
def histMovesSpec : ChangeSpec := { name := "histMoves", fn := fun _ => fun
  | [d1, d2, d3] => { results := [.lit (.bool true)], args := [d1, d2, d3] }
  | _ => none }
def histMovesRow : OpenClaim := { program := "ythihdaloonagoaa", sum := "a51d4745f1b10271a686f5a7f7fe2cce6c8debc911d484b855c3a8343be794b3", func := "withy/withylaw18.HistMoves", spec := "histMoves", unfollowed := true, recurses := true, apart := false }
def HistMovesSaid : Prop := histMovesRow.holds Try.pinned (OpenSpec.ofChange histMovesSpec)

/-- ITS FALSE NEIGHBOUR: 'it returns false'. Refute it at one input. -/
def histMovesWrong : ChangeSpec := { name := "histMoves", fn := fun _ => fun
  | [d1, d2, d3] => { results := [.lit (.bool false)], args := [d1, d2, d3] }
  | _ => none }
def HistMovesWrongFalsely : Prop := histMovesRow.holds Try.pinned (OpenSpec.ofChange histMovesWrong)

/- THE SECOND FORM. 'bulk': how many values and letters a reading holds, each counted each time it is reached (what is shared counts as often as it is met; a slice's spare places count too). A statement '..UptoSaid' is the law's where the arguments, and the package variables that the reading takes, are together of bulk at most 1048576: NARROWER than '..Said'. Prove '..Said' where nothing that the law and all that it calls make is longer than what came in: it says more and counts as full. Else prove '..UptoSaid'. A law counts once. -/
mutual
def uptoBulk {H : Type} : DataW H → Nat
  | .lit (.string bytes) => bytes.length + 1
  | .lit _ => 1
  | .nil => 1
  | .ptr d => uptoBulk d + 1
  | .slice elems spare => uptoBulkAll elems + uptoBulkAll spare + 1
  | .agg parts => uptoBulkAll parts + 1
  | .iface _ d => uptoBulk d + 1
  | .map entries => uptoBulkEntries entries + 1
  | .held _ => 1
def uptoBulkAll {H : Type} : List (DataW H) → Nat
  | [] => 0
  | d :: r => uptoBulk d + uptoBulkAll r
def uptoBulkEntries {H : Type} : List (Lit × DataW H) → Nat
  | [] => 0
  | x :: r => uptoBulkEntry x + uptoBulkEntries r
def uptoBulkEntry {H : Type} : Lit × DataW H → Nat
  | (.string bytes, d) => bytes.length + uptoBulk d + 1
  | (_, d) => uptoBulk d + 1
 end
def uptoSmall : (H : Type) → List (DataW H) → Bool := fun _ ds => decide (uptoBulkAll ds ≤ 1048576)
def OpenSpec.upto (s : _root_.Go.ChangeSpec) : _root_.Go.OpenSpec := { _root_.Go.OpenSpec.ofChange s with cond := some uptoSmall }

/-- 'withylaw18.HistRights', WHERE WHAT IT READS IS OF BULK AT MOST 1048576: true; the input reads as it did. -/
def histRightsUptoRow : OpenClaim := { program := "ythihdaloonagoaa", sum := "a51d4745f1b10271a686f5a7f7fe2cce6c8debc911d484b855c3a8343be794b3", func := "withy/withylaw18.HistRights", spec := "histRights", unfollowed := true, recurses := true, apart := false, narrowed := true }
def HistRightsUptoSaid : Prop := histRightsUptoRow.holds Try.pinned (OpenSpec.upto histRightsSpec)

/-- 'withylaw18.HistOrders', WHERE WHAT IT READS IS OF BULK AT MOST 1048576: true; the input reads as it did. -/
def histOrdersUptoRow : OpenClaim := { program := "ythihdaloonagoaa", sum := "a51d4745f1b10271a686f5a7f7fe2cce6c8debc911d484b855c3a8343be794b3", func := "withy/withylaw18.HistOrders", spec := "histOrders", unfollowed := true, recurses := true, apart := false, narrowed := true }
def HistOrdersUptoSaid : Prop := histOrdersUptoRow.holds Try.pinned (OpenSpec.upto histOrdersSpec)

/-- 'withylaw18.HistRespects', WHERE WHAT IT READS IS OF BULK AT MOST 1048576: true; the input reads as it did. -/
def histRespectsUptoRow : OpenClaim := { program := "ythihdaloonagoaa", sum := "a51d4745f1b10271a686f5a7f7fe2cce6c8debc911d484b855c3a8343be794b3", func := "withy/withylaw18.HistRespects", spec := "histRespects", unfollowed := true, recurses := true, apart := false, narrowed := true }
def HistRespectsUptoSaid : Prop := histRespectsUptoRow.holds Try.pinned (OpenSpec.upto histRespectsSpec)

/-- 'withylaw18.HistPoints', WHERE WHAT IT READS IS OF BULK AT MOST 1048576: true; the input reads as it did. -/
def histPointsUptoRow : OpenClaim := { program := "ythihdaloonagoaa", sum := "a51d4745f1b10271a686f5a7f7fe2cce6c8debc911d484b855c3a8343be794b3", func := "withy/withylaw18.HistPoints", spec := "histPoints", unfollowed := true, recurses := true, apart := false, narrowed := true }
def HistPointsUptoSaid : Prop := histPointsUptoRow.holds Try.pinned (OpenSpec.upto histPointsSpec)

/-- 'withylaw18.HistMoves', WHERE WHAT IT READS IS OF BULK AT MOST 1048576: true; the input reads as it did. -/
def histMovesUptoRow : OpenClaim := { program := "ythihdaloonagoaa", sum := "a51d4745f1b10271a686f5a7f7fe2cce6c8debc911d484b855c3a8343be794b3", func := "withy/withylaw18.HistMoves", spec := "histMoves", unfollowed := true, recurses := true, apart := false, narrowed := true }
def HistMovesUptoSaid : Prop := histMovesUptoRow.holds Try.pinned (OpenSpec.upto histMovesSpec)

end Rows
end Go.Proofs.Ythihdaloonagoaa
