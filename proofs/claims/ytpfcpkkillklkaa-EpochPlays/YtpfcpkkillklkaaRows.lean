/-
  No cell of these rows narrows 'for every input' (looked for: loops, veiled, ifaces, maps, wideKeys, modest, calm, conditions, laid).
  DERIVED. THE GIVEN ROWS OF THIS SEAT. 5 by the template 'for every input the law returns true; each argument reads behind the call as it read before'; 0 by the template 'total and deterministic' (their statements: YtpfcpkkillklkaaTotals.lean).
  GIVEN WITH THE SEED: the statements are not yours to turn. If you find one false, say at which input.
  Laid BY PROGRAM, IN A SANDBOX (cutbox-rows.mjs): the forced cells as the released guide's own fill.sh prints them over the translation 1397ba9009c5b8b6… (all of the seat's roots in one cut). By AI agents, Wed Nov 11 2026. No macro, syntax, notation, axiom, sorry.
-/
import Derived.Test.YtpfcpkkillklkaaChecked
import GoSem.Claim
import GoSem.ClaimJoined
import GoSem.ClaimMapViews
import Derived.JoinedTies
import Derived.KernelRfl
namespace Go.Proofs.Ytpfcpkkillklkaa
/- THE CELL 'sum', in the pinned program and in every row, IS THE sha256 OF THE DUMP (.gsa) THAT YtpfcpkkillklkaaProg.lean LOADS. Nothing in Lean hashes anything: it is a label: what it is worth is what the hold of that sum in a sandbox is worth. -/
noncomputable def Try.pinned : Pinned := { name := "ytpfcpkkillklkaa", sum := "1397ba9009c5b8b6c283e3f362b15c4c3f2172577a4defea113b058b75264458", checked := Try.checked }
namespace Rows
def none {H : Type} : Left H := { results := [], args := [] }

/-- 'withylaw08.EpochPlays': WHATEVER THE INPUT: true; the input reads as it did. -/
def epochPlaysSpec : ChangeSpec := { name := "epochPlays", fn := fun _ => fun
  | [d1, d2, d3] => { results := [.lit (.bool true)], args := [d1, d2, d3] }
  | _ => none }
def epochPlaysRow : OpenClaim := { program := "ytpfcpkkillklkaa", sum := "1397ba9009c5b8b6c283e3f362b15c4c3f2172577a4defea113b058b75264458", func := "withy/withylaw08.EpochPlays", spec := "epochPlays", apart := false }
def EpochPlaysSaid : Prop := epochPlaysRow.holds Try.pinned (OpenSpec.ofChange epochPlaysSpec)

/-- ITS FALSE NEIGHBOUR: 'it returns false'. Refute it at one input. -/
def epochPlaysWrong : ChangeSpec := { name := "epochPlays", fn := fun _ => fun
  | [d1, d2, d3] => { results := [.lit (.bool false)], args := [d1, d2, d3] }
  | _ => none }
def EpochPlaysWrongFalsely : Prop := epochPlaysRow.holds Try.pinned (OpenSpec.ofChange epochPlaysWrong)

/-- 'withylaw08.EpochAlone': WHATEVER THE INPUT: true; the input reads as it did. -/
def epochAloneSpec : ChangeSpec := { name := "epochAlone", fn := fun _ => fun
  | [d1, d2, d3] => { results := [.lit (.bool true)], args := [d1, d2, d3] }
  | _ => none }
def epochAloneRow : OpenClaim := { program := "ytpfcpkkillklkaa", sum := "1397ba9009c5b8b6c283e3f362b15c4c3f2172577a4defea113b058b75264458", func := "withy/withylaw08.EpochAlone", spec := "epochAlone", apart := false }
def EpochAloneSaid : Prop := epochAloneRow.holds Try.pinned (OpenSpec.ofChange epochAloneSpec)

/-- ITS FALSE NEIGHBOUR: 'it returns false'. Refute it at one input. -/
def epochAloneWrong : ChangeSpec := { name := "epochAlone", fn := fun _ => fun
  | [d1, d2, d3] => { results := [.lit (.bool false)], args := [d1, d2, d3] }
  | _ => none }
def EpochAloneWrongFalsely : Prop := epochAloneRow.holds Try.pinned (OpenSpec.ofChange epochAloneWrong)

/-- 'withylaw08.EpochMoves': WHATEVER THE INPUT: true; the input reads as it did. -/
def epochMovesSpec : ChangeSpec := { name := "epochMoves", fn := fun _ => fun
  | [d1, d2] => { results := [.lit (.bool true)], args := [d1, d2] }
  | _ => none }
def epochMovesRow : OpenClaim := { program := "ytpfcpkkillklkaa", sum := "1397ba9009c5b8b6c283e3f362b15c4c3f2172577a4defea113b058b75264458", func := "withy/withylaw08.EpochMoves", spec := "epochMoves", apart := false }
def EpochMovesSaid : Prop := epochMovesRow.holds Try.pinned (OpenSpec.ofChange epochMovesSpec)

/-- ITS FALSE NEIGHBOUR: 'it returns false'. Refute it at one input. -/
def epochMovesWrong : ChangeSpec := { name := "epochMoves", fn := fun _ => fun
  | [d1, d2] => { results := [.lit (.bool false)], args := [d1, d2] }
  | _ => none }
def EpochMovesWrongFalsely : Prop := epochMovesRow.holds Try.pinned (OpenSpec.ofChange epochMovesWrong)

/-- 'withylaw08.EpochDone': WHATEVER THE INPUT: true; the input reads as it did. -/
def epochDoneSpec : ChangeSpec := { name := "epochDone", fn := fun _ => fun
  | [d1, d2] => { results := [.lit (.bool true)], args := [d1, d2] }
  | _ => none }
def epochDoneRow : OpenClaim := { program := "ytpfcpkkillklkaa", sum := "1397ba9009c5b8b6c283e3f362b15c4c3f2172577a4defea113b058b75264458", func := "withy/withylaw08.EpochDone", spec := "epochDone", apart := false }
def EpochDoneSaid : Prop := epochDoneRow.holds Try.pinned (OpenSpec.ofChange epochDoneSpec)

/-- ITS FALSE NEIGHBOUR: 'it returns false'. Refute it at one input. -/
def epochDoneWrong : ChangeSpec := { name := "epochDone", fn := fun _ => fun
  | [d1, d2] => { results := [.lit (.bool false)], args := [d1, d2] }
  | _ => none }
def EpochDoneWrongFalsely : Prop := epochDoneRow.holds Try.pinned (OpenSpec.ofChange epochDoneWrong)

/-- 'withylaw08.EpochNone': WHATEVER THE INPUT: true; the input reads as it did. -/
def epochNoneSpec : ChangeSpec := { name := "epochNone", fn := fun _ => fun
  | [d1, d2] => { results := [.lit (.bool true)], args := [d1, d2] }
  | _ => none }
def epochNoneRow : OpenClaim := { program := "ytpfcpkkillklkaa", sum := "1397ba9009c5b8b6c283e3f362b15c4c3f2172577a4defea113b058b75264458", func := "withy/withylaw08.EpochNone", spec := "epochNone", apart := false }
def EpochNoneSaid : Prop := epochNoneRow.holds Try.pinned (OpenSpec.ofChange epochNoneSpec)

/-- ITS FALSE NEIGHBOUR: 'it returns false'. Refute it at one input. -/
def epochNoneWrong : ChangeSpec := { name := "epochNone", fn := fun _ => fun
  | [d1, d2] => { results := [.lit (.bool false)], args := [d1, d2] }
  | _ => none }
def EpochNoneWrongFalsely : Prop := epochNoneRow.holds Try.pinned (OpenSpec.ofChange epochNoneWrong)

/- THE SECOND FORM. 'bulk': how many values and letters a reading holds, each counted each time it is reached (what is shared counts as often as it is met; a slice's spare places count too). A statement '..UptoSaid' is the law's where the arguments, and the package variables that the reading takes, are together of bulk at most 1048576: NARROWER than '..Said'. Prove '..Said' where nothing that the law and all that it calls make is longer than what came in: it says more and counts as full. Else prove '..UptoSaid'. A law counts once. -/
mutual
def uptoBulk {H : Type} : DataW H → Nat
  | .lit (.string bytes) => bytes.length + 1
  | .lit _ => 1
  | .nil => 1
  | .ptr d => uptoBulk d + 1
  | .slice elems spare => uptoBulkAll elems + uptoBulkAll spare + 1
  | .agg parts => uptoBulkAll parts + 1
  | .iface _ d => uptoBulk d + 1
  | .map entries => uptoBulkEntries entries + 1
  | .held _ => 1
def uptoBulkAll {H : Type} : List (DataW H) → Nat
  | [] => 0
  | d :: r => uptoBulk d + uptoBulkAll r
def uptoBulkEntries {H : Type} : List (Lit × DataW H) → Nat
  | [] => 0
  | x :: r => uptoBulkEntry x + uptoBulkEntries r
def uptoBulkEntry {H : Type} : Lit × DataW H → Nat
  | (.string bytes, d) => bytes.length + uptoBulk d + 1
  | (_, d) => uptoBulk d + 1
 end
def uptoSmall : (H : Type) → List (DataW H) → Bool := fun _ ds => decide (uptoBulkAll ds ≤ 1048576)
def OpenSpec.upto (s : _root_.Go.ChangeSpec) : _root_.Go.OpenSpec := { _root_.Go.OpenSpec.ofChange s with cond := some uptoSmall }

/-- 'withylaw08.EpochPlays', WHERE WHAT IT READS IS OF BULK AT MOST 1048576: true; the input reads as it did. -/
def epochPlaysUptoRow : OpenClaim := { program := "ytpfcpkkillklkaa", sum := "1397ba9009c5b8b6c283e3f362b15c4c3f2172577a4defea113b058b75264458", func := "withy/withylaw08.EpochPlays", spec := "epochPlays", apart := false, narrowed := true }
def EpochPlaysUptoSaid : Prop := epochPlaysUptoRow.holds Try.pinned (OpenSpec.upto epochPlaysSpec)

/-- 'withylaw08.EpochAlone', WHERE WHAT IT READS IS OF BULK AT MOST 1048576: true; the input reads as it did. -/
def epochAloneUptoRow : OpenClaim := { program := "ytpfcpkkillklkaa", sum := "1397ba9009c5b8b6c283e3f362b15c4c3f2172577a4defea113b058b75264458", func := "withy/withylaw08.EpochAlone", spec := "epochAlone", apart := false, narrowed := true }
def EpochAloneUptoSaid : Prop := epochAloneUptoRow.holds Try.pinned (OpenSpec.upto epochAloneSpec)

/-- 'withylaw08.EpochMoves', WHERE WHAT IT READS IS OF BULK AT MOST 1048576: true; the input reads as it did. -/
def epochMovesUptoRow : OpenClaim := { program := "ytpfcpkkillklkaa", sum := "1397ba9009c5b8b6c283e3f362b15c4c3f2172577a4defea113b058b75264458", func := "withy/withylaw08.EpochMoves", spec := "epochMoves", apart := false, narrowed := true }
def EpochMovesUptoSaid : Prop := epochMovesUptoRow.holds Try.pinned (OpenSpec.upto epochMovesSpec)

/-- 'withylaw08.EpochDone', WHERE WHAT IT READS IS OF BULK AT MOST 1048576: true; the input reads as it did. -/
def epochDoneUptoRow : OpenClaim := { program := "ytpfcpkkillklkaa", sum := "1397ba9009c5b8b6c283e3f362b15c4c3f2172577a4defea113b058b75264458", func := "withy/withylaw08.EpochDone", spec := "epochDone", apart := false, narrowed := true }
def EpochDoneUptoSaid : Prop := epochDoneUptoRow.holds Try.pinned (OpenSpec.upto epochDoneSpec)

/-- 'withylaw08.EpochNone', WHERE WHAT IT READS IS OF BULK AT MOST 1048576: true; the input reads as it did. -/
def epochNoneUptoRow : OpenClaim := { program := "ytpfcpkkillklkaa", sum := "1397ba9009c5b8b6c283e3f362b15c4c3f2172577a4defea113b058b75264458", func := "withy/withylaw08.EpochNone", spec := "epochNone", apart := false, narrowed := true }
def EpochNoneUptoSaid : Prop := epochNoneUptoRow.holds Try.pinned (OpenSpec.upto epochNoneSpec)

end Rows
end Go.Proofs.Ytpfcpkkillklkaa
