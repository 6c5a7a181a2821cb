/-
  No cell of these rows narrows 'for every input' (looked for: loops, veiled, ifaces, maps, wideKeys, modest, calm, conditions, laid).
  DERIVED. THE GIVEN ROWS OF THIS SEAT. 4 by the template 'for every input the law returns true; each argument reads behind the call as it read before'; 0 by the template 'total and deterministic' (their statements: YtecppcakgfohbabTotals.lean).
  GIVEN WITH THE SEED: the statements are not yours to turn. If you find one false, say at which input.
  Laid BY PROGRAM, IN A SANDBOX (cutbox-rows.mjs): the forced cells as the released guide's own fill.sh prints them over the translation acb89a45d3da2e1f… (all of the seat's roots in one cut). By AI agents, Wed Nov 11 2026. No macro, syntax, notation, axiom, sorry.
-/
import Derived.Test.YtecppcakgfohbabChecked
import GoSem.Claim
import GoSem.ClaimJoined
import GoSem.ClaimMapViews
import Derived.JoinedTies
import Derived.KernelRfl
namespace Go.Proofs.Ytecppcakgfohbab
/- THE CELL 'sum', in the pinned program and in every row, IS THE sha256 OF THE DUMP (.gsa) THAT YtecppcakgfohbabProg.lean LOADS. Nothing in Lean hashes anything: it is a label: what it is worth is what the hold of that sum in a sandbox is worth. -/
noncomputable def Try.pinned : Pinned := { name := "ytecppcakgfohbab", sum := "acb89a45d3da2e1f06a65255e0aa7f398c869b8db5c4f208a8f6864eb01b2582", checked := Try.checked }
namespace Rows
def none {H : Type} : Left H := { results := [], args := [] }

/-- 'withylaw19.LinSearches': WHATEVER THE INPUT: true; the input reads as it did. -/
def linSearchesSpec : ChangeSpec := { name := "linSearches", fn := fun _ => fun
  | [d1, d2] => { results := [.lit (.bool true)], args := [d1, d2] }
  | _ => none }
def linSearchesRow : OpenClaim := { program := "ytecppcakgfohbab", sum := "acb89a45d3da2e1f06a65255e0aa7f398c869b8db5c4f208a8f6864eb01b2582", func := "withy/withylaw19.LinSearches", spec := "linSearches", inPlace := ["maps.clone"], unfollowed := true, recurses := true, apart := false }
def LinSearchesSaid : Prop := linSearchesRow.holds Try.pinned (OpenSpec.ofChange linSearchesSpec)

/-- ITS FALSE NEIGHBOUR: 'it returns false'. Refute it at one input. -/
def linSearchesWrong : ChangeSpec := { name := "linSearches", fn := fun _ => fun
  | [d1, d2] => { results := [.lit (.bool false)], args := [d1, d2] }
  | _ => none }
def LinSearchesWrongFalsely : Prop := linSearchesRow.holds Try.pinned (OpenSpec.ofChange linSearchesWrong)

/-- 'withylaw19.LinPoints': WHATEVER THE INPUT: true; the input reads as it did. -/
def linPointsSpec : ChangeSpec := { name := "linPoints", fn := fun _ => fun
  | [d1, d2] => { results := [.lit (.bool true)], args := [d1, d2] }
  | _ => none }
def linPointsRow : OpenClaim := { program := "ytecppcakgfohbab", sum := "acb89a45d3da2e1f06a65255e0aa7f398c869b8db5c4f208a8f6864eb01b2582", func := "withy/withylaw19.LinPoints", spec := "linPoints", inPlace := ["maps.clone"], unfollowed := true, recurses := true, apart := false }
def LinPointsSaid : Prop := linPointsRow.holds Try.pinned (OpenSpec.ofChange linPointsSpec)

/-- ITS FALSE NEIGHBOUR: 'it returns false'. Refute it at one input. -/
def linPointsWrong : ChangeSpec := { name := "linPoints", fn := fun _ => fun
  | [d1, d2] => { results := [.lit (.bool false)], args := [d1, d2] }
  | _ => none }
def LinPointsWrongFalsely : Prop := linPointsRow.holds Try.pinned (OpenSpec.ofChange linPointsWrong)

/-- 'withylaw19.LinFronts': WHATEVER THE INPUT: true; the input reads as it did. -/
def linFrontsSpec : ChangeSpec := { name := "linFronts", fn := fun _ => fun
  | [d1, d2, d3, d4] => { results := [.lit (.bool true)], args := [d1, d2, d3, d4] }
  | _ => none }
def linFrontsRow : OpenClaim := { program := "ytecppcakgfohbab", sum := "acb89a45d3da2e1f06a65255e0aa7f398c869b8db5c4f208a8f6864eb01b2582", func := "withy/withylaw19.LinFronts", spec := "linFronts", inPlace := ["maps.clone"], unfollowed := true, recurses := true, apart := false }
def LinFrontsSaid : Prop := linFrontsRow.holds Try.pinned (OpenSpec.ofChange linFrontsSpec)

/-- ITS FALSE NEIGHBOUR: 'it returns false'. Refute it at one input. -/
def linFrontsWrong : ChangeSpec := { name := "linFronts", fn := fun _ => fun
  | [d1, d2, d3, d4] => { results := [.lit (.bool false)], args := [d1, d2, d3, d4] }
  | _ => none }
def LinFrontsWrongFalsely : Prop := linFrontsRow.holds Try.pinned (OpenSpec.ofChange linFrontsWrong)

/-- 'withylaw19.LinNone': WHATEVER THE INPUT: true; the input reads as it did. -/
def linNoneSpec : ChangeSpec := { name := "linNone", fn := fun _ => fun
  | [d1, d2, d3, d4] => { results := [.lit (.bool true)], args := [d1, d2, d3, d4] }
  | _ => none }
def linNoneRow : OpenClaim := { program := "ytecppcakgfohbab", sum := "acb89a45d3da2e1f06a65255e0aa7f398c869b8db5c4f208a8f6864eb01b2582", func := "withy/withylaw19.LinNone", spec := "linNone", inPlace := ["maps.clone"], unfollowed := true, recurses := true, apart := false }
def LinNoneSaid : Prop := linNoneRow.holds Try.pinned (OpenSpec.ofChange linNoneSpec)

/-- ITS FALSE NEIGHBOUR: 'it returns false'. Refute it at one input. -/
def linNoneWrong : ChangeSpec := { name := "linNone", fn := fun _ => fun
  | [d1, d2, d3, d4] => { results := [.lit (.bool false)], args := [d1, d2, d3, d4] }
  | _ => none }
def LinNoneWrongFalsely : Prop := linNoneRow.holds Try.pinned (OpenSpec.ofChange linNoneWrong)

/- THE SECOND FORM. 'bulk': how many values and letters a reading holds, each counted each time it is reached (what is shared counts as often as it is met; a slice's spare places count too). A statement '..UptoSaid' is the law's where the arguments, and the package variables that the reading takes, are together of bulk at most 1048576: NARROWER than '..Said'. Prove '..Said' where nothing that the law and all that it calls make is longer than what came in: it says more and counts as full. Else prove '..UptoSaid'. A law counts once. -/
mutual
def uptoBulk {H : Type} : DataW H → Nat
  | .lit (.string bytes) => bytes.length + 1
  | .lit _ => 1
  | .nil => 1
  | .ptr d => uptoBulk d + 1
  | .slice elems spare => uptoBulkAll elems + uptoBulkAll spare + 1
  | .agg parts => uptoBulkAll parts + 1
  | .iface _ d => uptoBulk d + 1
  | .map entries => uptoBulkEntries entries + 1
  | .held _ => 1
def uptoBulkAll {H : Type} : List (DataW H) → Nat
  | [] => 0
  | d :: r => uptoBulk d + uptoBulkAll r
def uptoBulkEntries {H : Type} : List (Lit × DataW H) → Nat
  | [] => 0
  | x :: r => uptoBulkEntry x + uptoBulkEntries r
def uptoBulkEntry {H : Type} : Lit × DataW H → Nat
  | (.string bytes, d) => bytes.length + uptoBulk d + 1
  | (_, d) => uptoBulk d + 1
 end
def uptoSmall : (H : Type) → List (DataW H) → Bool := fun _ ds => decide (uptoBulkAll ds ≤ 1048576)
def OpenSpec.upto (s : _root_.Go.ChangeSpec) : _root_.Go.OpenSpec := { _root_.Go.OpenSpec.ofChange s with cond := some uptoSmall }

/-- 'withylaw19.LinSearches', WHERE WHAT IT READS IS OF BULK AT MOST 1048576: true; the input reads as it did. -/
def linSearchesUptoRow : OpenClaim := { program := "ytecppcakgfohbab", sum := "acb89a45d3da2e1f06a65255e0aa7f398c869b8db5c4f208a8f6864eb01b2582", func := "withy/withylaw19.LinSearches", spec := "linSearches", inPlace := ["maps.clone"], unfollowed := true, recurses := true, apart := false, narrowed := true }
def LinSearchesUptoSaid : Prop := linSearchesUptoRow.holds Try.pinned (OpenSpec.upto linSearchesSpec)

/-- 'withylaw19.LinPoints', WHERE WHAT IT READS IS OF BULK AT MOST 1048576: true; the input reads as it did. -/
def linPointsUptoRow : OpenClaim := { program := "ytecppcakgfohbab", sum := "acb89a45d3da2e1f06a65255e0aa7f398c869b8db5c4f208a8f6864eb01b2582", func := "withy/withylaw19.LinPoints", spec := "linPoints", inPlace := ["maps.clone"], unfollowed := true, recurses := true, apart := false, narrowed := true }
def LinPointsUptoSaid : Prop := linPointsUptoRow.holds Try.pinned (OpenSpec.upto linPointsSpec)

/-- 'withylaw19.LinFronts', WHERE WHAT IT READS IS OF BULK AT MOST 1048576: true; the input reads as it did. -/
def linFrontsUptoRow : OpenClaim := { program := "ytecppcakgfohbab", sum := "acb89a45d3da2e1f06a65255e0aa7f398c869b8db5c4f208a8f6864eb01b2582", func := "withy/withylaw19.LinFronts", spec := "linFronts", inPlace := ["maps.clone"], unfollowed := true, recurses := true, apart := false, narrowed := true }
def LinFrontsUptoSaid : Prop := linFrontsUptoRow.holds Try.pinned (OpenSpec.upto linFrontsSpec)

/-- 'withylaw19.LinNone', WHERE WHAT IT READS IS OF BULK AT MOST 1048576: true; the input reads as it did. -/
def linNoneUptoRow : OpenClaim := { program := "ytecppcakgfohbab", sum := "acb89a45d3da2e1f06a65255e0aa7f398c869b8db5c4f208a8f6864eb01b2582", func := "withy/withylaw19.LinNone", spec := "linNone", inPlace := ["maps.clone"], unfollowed := true, recurses := true, apart := false, narrowed := true }
def LinNoneUptoSaid : Prop := linNoneUptoRow.holds Try.pinned (OpenSpec.upto linNoneSpec)

end Rows
end Go.Proofs.Ytecppcakgfohbab
