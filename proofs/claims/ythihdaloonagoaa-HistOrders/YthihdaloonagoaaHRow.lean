/- Layer 18: the laws over what came in. -/
import Derived.Test.YthihdaloonagoaaHOp
namespace Go.Proofs.Ythihdaloonagoaa
open Go.RowKit

theorem rights_row (ad : Option Addr) (len cap : Nat) (E : List Ev) (c : Int) (w : World) (hE : len = E.length) (hR : RdEv w ad E) :
    Calls Try.prog 3 #[.slice ad len cap, .int .i64 c] w fun r w' => r = .returned (.bool true) ∧ Below w.heap.size w w' := rights_law cap hE hR c
theorem orders_row (ad : Option Addr) (len cap : Nat) (E : List Ev) (w : World) (hE : len = E.length) (hR : RdEv w ad E) :
    Calls Try.prog 4 #[.slice ad len cap] w fun r w' => r = .returned (.bool true) ∧ Below w.heap.size w w' := orders_law cap hE hR
theorem respects_row (ad : Option Addr) (len cap : Nat) (E : List Ev) (ao : Option Addr) (leno capo : Nat) (Z : List Int) (w : World) (hE : len = E.length) (hR : RdEv w ad E) (hW : ∀ e ∈ E, -9223372036854775808 ≤ e.en) (hO : leno = Z.length) (hZ : RdZ w ao Z) :
    Calls Try.prog 5 #[.slice ad len cap, .slice ao leno capo] w fun r w' => r = .returned (.bool true) ∧ Below w.heap.size w w' := respects_law cap capo hE hR hW hO hZ
theorem points_row (ad : Option Addr) (len cap : Nat) (E : List Ev) (c : Int) (w : World) (hE : len = E.length) (hR : RdEv w ad E) (hW : ∀ e ∈ E, -9223372036854775808 ≤ e.en) :
    Calls Try.prog 6 #[.slice ad len cap, .int .i64 c] w fun r w' => r = .returned (.bool true) ∧ Below w.heap.size w w' := points_law cap hE hR hW c
theorem moves_row (ad : Option Addr) (len cap : Nat) (E : List Ev) (c d : Int) (hd : 0 ≤ d ∧ d < 65536) (w : World) (hE : len = E.length) (hR : RdEv w ad E) (hW : ∀ e ∈ E, -9223372036854775808 ≤ e.en) :
    Calls Try.prog 7 #[.slice ad len cap, .int .i64 c, .int .u16 d] w fun r w' => r = .returned (.bool true) ∧ Below w.heap.size w w' := moves_law cap hE hR hW c d hd
end Go.Proofs.Ythihdaloonagoaa
