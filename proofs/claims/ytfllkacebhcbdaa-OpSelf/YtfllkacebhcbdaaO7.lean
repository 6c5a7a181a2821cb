/- Layer 16: the rows' calls. -/
import Derived.Test.YtfllkacebhcbdaaO6
namespace Go.Proofs.Ytfllkacebhcbdaa
open Go.RowKit
theorem values_row (of cl : Int) (raw : Nat) (self : Int) (ad : Option Addr) (len cap : Nat) (T : List (List Nat)) (w : World) (hl : len = T.length) (hT : RdT w ad T) (hb : len ≤ maxLen) :
    Calls Try.prog 3 #[.agg #[.int .i64 of, .int .i64 cl, .int .u64 (raw : Nat)], .int .i64 self, .slice ad len cap] w fun r w' => r = .returned (.bool true) ∧ Below w.heap.size w w' := values_law cap hl hT (by unfold maxLen at hb; omega) of cl raw self
theorem self_row (of self other : Int) (ad : Option Addr) (len cap : Nat) (T : List (List Nat)) (w : World) (hl : len = T.length) (hT : RdT w ad T) (hb : len ≤ maxLen) :
    Calls Try.prog 7 #[.int .i64 of, .int .i64 self, .int .i64 other, .slice ad len cap] w fun r w' => r = .returned (.bool true) ∧ Below w.heap.size w w' := self_law cap hl hT (by unfold maxLen at hb; omega) of self other
theorem calls_row (kd n o1 c1 : Int) (r1 : Nat) (o2 c2 : Int) (r2 : Nat) (o3 c3 : Int) (r3 : Nat) (self : Int) (ad : Option Addr) (len cap : Nat) (T : List (List Nat)) (w : World) (hl : len = T.length) (hT : RdT w ad T) (hb : len ≤ maxLen) :
    Calls Try.prog 4 #[.agg #[.int .i64 kd, .int .i64 n, .int .i64 o1, .int .i64 c1, .int .u64 (r1 : Nat), .int .i64 o2, .int .i64 c2, .int .u64 (r2 : Nat), .int .i64 o3, .int .i64 c3, .int .u64 (r3 : Nat)], .int .i64 self, .slice ad len cap] w fun r w' => r = .returned (.bool true) ∧ Below w.heap.size w w' := calls_law cap hl hT (by unfold maxLen at hb; omega) kd n o1 c1 o2 c2 o3 c3 r1 r2 r3 self
end Go.Proofs.Ytfllkacebhcbdaa
