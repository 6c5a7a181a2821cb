/-
  No cell of these rows narrows 'for every input' (looked for: loops, veiled, ifaces, maps, wideKeys, modest, calm, conditions, laid).
  DERIVED. THE GIVEN ROWS OF THIS SEAT. 6 by the template 'for every input the law returns true; each argument reads behind the call as it read before'; 0 by the template 'total and deterministic' (their statements: YtcfallaekedmkaaTotals.lean).
  GIVEN WITH THE SEED: the statements are not yours to turn. If you find one false, say at which input.
  Laid BY PROGRAM, IN A SANDBOX (cutbox-rows.mjs): the forced cells as the released guide's own fill.sh prints them over the translation 27ca63e1d0c1e85d… (all of the seat's roots in one cut). By AI agents, Wed Nov 11 2026. No macro, syntax, notation, axiom, sorry.
-/
import Derived.Test.YtcfallaekedmkaaChecked
import GoSem.Claim
import GoSem.ClaimJoined
import GoSem.ClaimMapViews
import Derived.JoinedTies
import Derived.KernelRfl
namespace Go.Proofs.Ytcfallaekedmkaa
/- THE CELL 'sum', in the pinned program and in every row, IS THE sha256 OF THE DUMP (.gsa) THAT YtcfallaekedmkaaProg.lean LOADS. Nothing in Lean hashes anything: it is a label: what it is worth is what the hold of that sum in a sandbox is worth. -/
noncomputable def Try.pinned : Pinned := { name := "ytcfallaekedmkaa", sum := "27ca63e1d0c1e85dbb77e5a8aaa1a9db0e53b64e1019abc1d5b036a64b4d3842", checked := Try.checked }
namespace Rows
def none {H : Type} : Left H := { results := [], args := [] }

/-- 'withylaw07.StackPlays': WHATEVER THE INPUT: true; the input reads as it did. -/
def stackPlaysSpec : ChangeSpec := { name := "stackPlays", fn := fun _ => fun
  | [d1, d2, d3] => { results := [.lit (.bool true)], args := [d1, d2, d3] }
  | _ => none }
def stackPlaysRow : OpenClaim := { program := "ytcfallaekedmkaa", sum := "27ca63e1d0c1e85dbb77e5a8aaa1a9db0e53b64e1019abc1d5b036a64b4d3842", func := "withy/withylaw07.StackPlays", spec := "stackPlays", apart := false }
def StackPlaysSaid : Prop := stackPlaysRow.holds Try.pinned (OpenSpec.ofChange stackPlaysSpec)

/-- ITS FALSE NEIGHBOUR: 'it returns false'. Refute it at one input. -/
def stackPlaysWrong : ChangeSpec := { name := "stackPlays", fn := fun _ => fun
  | [d1, d2, d3] => { results := [.lit (.bool false)], args := [d1, d2, d3] }
  | _ => none }
def StackPlaysWrongFalsely : Prop := stackPlaysRow.holds Try.pinned (OpenSpec.ofChange stackPlaysWrong)

/-- 'withylaw07.StackLists': WHATEVER THE INPUT: true; the input reads as it did. -/
def stackListsSpec : ChangeSpec := { name := "stackLists", fn := fun _ => fun
  | [d1, d2, d3] => { results := [.lit (.bool true)], args := [d1, d2, d3] }
  | _ => none }
def stackListsRow : OpenClaim := { program := "ytcfallaekedmkaa", sum := "27ca63e1d0c1e85dbb77e5a8aaa1a9db0e53b64e1019abc1d5b036a64b4d3842", func := "withy/withylaw07.StackLists", spec := "stackLists", apart := false }
def StackListsSaid : Prop := stackListsRow.holds Try.pinned (OpenSpec.ofChange stackListsSpec)

/-- ITS FALSE NEIGHBOUR: 'it returns false'. Refute it at one input. -/
def stackListsWrong : ChangeSpec := { name := "stackLists", fn := fun _ => fun
  | [d1, d2, d3] => { results := [.lit (.bool false)], args := [d1, d2, d3] }
  | _ => none }
def StackListsWrongFalsely : Prop := stackListsRow.holds Try.pinned (OpenSpec.ofChange stackListsWrong)

/-- 'withylaw07.StackAlone': WHATEVER THE INPUT: true; the input reads as it did. -/
def stackAloneSpec : ChangeSpec := { name := "stackAlone", fn := fun _ => fun
  | [d] => { results := [.lit (.bool true)], args := [d] }
  | _ => none }
def stackAloneRow : OpenClaim := { program := "ytcfallaekedmkaa", sum := "27ca63e1d0c1e85dbb77e5a8aaa1a9db0e53b64e1019abc1d5b036a64b4d3842", func := "withy/withylaw07.StackAlone", spec := "stackAlone", apart := false }
def StackAloneSaid : Prop := stackAloneRow.holds Try.pinned (OpenSpec.ofChange stackAloneSpec)

/-- ITS FALSE NEIGHBOUR: 'it returns false'. Refute it at one input. -/
def stackAloneWrong : ChangeSpec := { name := "stackAlone", fn := fun _ => fun
  | [d] => { results := [.lit (.bool false)], args := [d] }
  | _ => none }
def StackAloneWrongFalsely : Prop := stackAloneRow.holds Try.pinned (OpenSpec.ofChange stackAloneWrong)

/-- 'withylaw07.StackOld': WHATEVER THE INPUT: true; the input reads as it did. -/
def stackOldSpec : ChangeSpec := { name := "stackOld", fn := fun _ => fun
  | [d1, d2] => { results := [.lit (.bool true)], args := [d1, d2] }
  | _ => none }
def stackOldRow : OpenClaim := { program := "ytcfallaekedmkaa", sum := "27ca63e1d0c1e85dbb77e5a8aaa1a9db0e53b64e1019abc1d5b036a64b4d3842", func := "withy/withylaw07.StackOld", spec := "stackOld", apart := false }
def StackOldSaid : Prop := stackOldRow.holds Try.pinned (OpenSpec.ofChange stackOldSpec)

/-- ITS FALSE NEIGHBOUR: 'it returns false'. Refute it at one input. -/
def stackOldWrong : ChangeSpec := { name := "stackOld", fn := fun _ => fun
  | [d1, d2] => { results := [.lit (.bool false)], args := [d1, d2] }
  | _ => none }
def StackOldWrongFalsely : Prop := stackOldRow.holds Try.pinned (OpenSpec.ofChange stackOldWrong)

/-- 'withylaw07.StackNone': WHATEVER THE INPUT: true; the input reads as it did. -/
def stackNoneSpec : ChangeSpec := { name := "stackNone", fn := fun _ => fun
  | [d1, d2] => { results := [.lit (.bool true)], args := [d1, d2] }
  | _ => none }
def stackNoneRow : OpenClaim := { program := "ytcfallaekedmkaa", sum := "27ca63e1d0c1e85dbb77e5a8aaa1a9db0e53b64e1019abc1d5b036a64b4d3842", func := "withy/withylaw07.StackNone", spec := "stackNone", apart := false }
def StackNoneSaid : Prop := stackNoneRow.holds Try.pinned (OpenSpec.ofChange stackNoneSpec)

/-- ITS FALSE NEIGHBOUR: 'it returns false'. Refute it at one input. -/
def stackNoneWrong : ChangeSpec := { name := "stackNone", fn := fun _ => fun
  | [d1, d2] => { results := [.lit (.bool false)], args := [d1, d2] }
  | _ => none }
def StackNoneWrongFalsely : Prop := stackNoneRow.holds Try.pinned (OpenSpec.ofChange stackNoneWrong)

/-- 'withylaw07.StackTags': WHATEVER THE INPUT: true; the input reads as it did. -/
def stackTagsSpec : ChangeSpec := { name := "stackTags", fn := fun _ => fun
  | [d1, d2] => { results := [.lit (.bool true)], args := [d1, d2] }
  | _ => none }
def stackTagsRow : OpenClaim := { program := "ytcfallaekedmkaa", sum := "27ca63e1d0c1e85dbb77e5a8aaa1a9db0e53b64e1019abc1d5b036a64b4d3842", func := "withy/withylaw07.StackTags", spec := "stackTags", apart := false }
def StackTagsSaid : Prop := stackTagsRow.holds Try.pinned (OpenSpec.ofChange stackTagsSpec)

/-- ITS FALSE NEIGHBOUR: 'it returns false'. Refute it at one input. -/
def stackTagsWrong : ChangeSpec := { name := "stackTags", fn := fun _ => fun
  | [d1, d2] => { results := [.lit (.bool false)], args := [d1, d2] }
  | _ => none }
def StackTagsWrongFalsely : Prop := stackTagsRow.holds Try.pinned (OpenSpec.ofChange stackTagsWrong)

/- THE SECOND FORM. 'bulk': how many values and letters a reading holds, each counted each time it is reached (what is shared counts as often as it is met; a slice's spare places count too). A statement '..UptoSaid' is the law's where the arguments, and the package variables that the reading takes, are together of bulk at most 1048576: NARROWER than '..Said'. Prove '..Said' where nothing that the law and all that it calls make is longer than what came in: it says more and counts as full. Else prove '..UptoSaid'. A law counts once. -/
mutual
def uptoBulk {H : Type} : DataW H → Nat
  | .lit (.string bytes) => bytes.length + 1
  | .lit _ => 1
  | .nil => 1
  | .ptr d => uptoBulk d + 1
  | .slice elems spare => uptoBulkAll elems + uptoBulkAll spare + 1
  | .agg parts => uptoBulkAll parts + 1
  | .iface _ d => uptoBulk d + 1
  | .map entries => uptoBulkEntries entries + 1
  | .held _ => 1
def uptoBulkAll {H : Type} : List (DataW H) → Nat
  | [] => 0
  | d :: r => uptoBulk d + uptoBulkAll r
def uptoBulkEntries {H : Type} : List (Lit × DataW H) → Nat
  | [] => 0
  | x :: r => uptoBulkEntry x + uptoBulkEntries r
def uptoBulkEntry {H : Type} : Lit × DataW H → Nat
  | (.string bytes, d) => bytes.length + uptoBulk d + 1
  | (_, d) => uptoBulk d + 1
 end
def uptoSmall : (H : Type) → List (DataW H) → Bool := fun _ ds => decide (uptoBulkAll ds ≤ 1048576)
def OpenSpec.upto (s : _root_.Go.ChangeSpec) : _root_.Go.OpenSpec := { _root_.Go.OpenSpec.ofChange s with cond := some uptoSmall }

/-- 'withylaw07.StackPlays', WHERE WHAT IT READS IS OF BULK AT MOST 1048576: true; the input reads as it did. -/
def stackPlaysUptoRow : OpenClaim := { program := "ytcfallaekedmkaa", sum := "27ca63e1d0c1e85dbb77e5a8aaa1a9db0e53b64e1019abc1d5b036a64b4d3842", func := "withy/withylaw07.StackPlays", spec := "stackPlays", apart := false, narrowed := true }
def StackPlaysUptoSaid : Prop := stackPlaysUptoRow.holds Try.pinned (OpenSpec.upto stackPlaysSpec)

/-- 'withylaw07.StackLists', WHERE WHAT IT READS IS OF BULK AT MOST 1048576: true; the input reads as it did. -/
def stackListsUptoRow : OpenClaim := { program := "ytcfallaekedmkaa", sum := "27ca63e1d0c1e85dbb77e5a8aaa1a9db0e53b64e1019abc1d5b036a64b4d3842", func := "withy/withylaw07.StackLists", spec := "stackLists", apart := false, narrowed := true }
def StackListsUptoSaid : Prop := stackListsUptoRow.holds Try.pinned (OpenSpec.upto stackListsSpec)

/-- 'withylaw07.StackAlone', WHERE WHAT IT READS IS OF BULK AT MOST 1048576: true; the input reads as it did. -/
def stackAloneUptoRow : OpenClaim := { program := "ytcfallaekedmkaa", sum := "27ca63e1d0c1e85dbb77e5a8aaa1a9db0e53b64e1019abc1d5b036a64b4d3842", func := "withy/withylaw07.StackAlone", spec := "stackAlone", apart := false, narrowed := true }
def StackAloneUptoSaid : Prop := stackAloneUptoRow.holds Try.pinned (OpenSpec.upto stackAloneSpec)

/-- 'withylaw07.StackOld', WHERE WHAT IT READS IS OF BULK AT MOST 1048576: true; the input reads as it did. -/
def stackOldUptoRow : OpenClaim := { program := "ytcfallaekedmkaa", sum := "27ca63e1d0c1e85dbb77e5a8aaa1a9db0e53b64e1019abc1d5b036a64b4d3842", func := "withy/withylaw07.StackOld", spec := "stackOld", apart := false, narrowed := true }
def StackOldUptoSaid : Prop := stackOldUptoRow.holds Try.pinned (OpenSpec.upto stackOldSpec)

/-- 'withylaw07.StackNone', WHERE WHAT IT READS IS OF BULK AT MOST 1048576: true; the input reads as it did. -/
def stackNoneUptoRow : OpenClaim := { program := "ytcfallaekedmkaa", sum := "27ca63e1d0c1e85dbb77e5a8aaa1a9db0e53b64e1019abc1d5b036a64b4d3842", func := "withy/withylaw07.StackNone", spec := "stackNone", apart := false, narrowed := true }
def StackNoneUptoSaid : Prop := stackNoneUptoRow.holds Try.pinned (OpenSpec.upto stackNoneSpec)

/-- 'withylaw07.StackTags', WHERE WHAT IT READS IS OF BULK AT MOST 1048576: true; the input reads as it did. -/
def stackTagsUptoRow : OpenClaim := { program := "ytcfallaekedmkaa", sum := "27ca63e1d0c1e85dbb77e5a8aaa1a9db0e53b64e1019abc1d5b036a64b4d3842", func := "withy/withylaw07.StackTags", spec := "stackTags", apart := false, narrowed := true }
def StackTagsUptoSaid : Prop := stackTagsUptoRow.holds Try.pinned (OpenSpec.upto stackTagsSpec)

end Rows
end Go.Proofs.Ytcfallaekedmkaa
