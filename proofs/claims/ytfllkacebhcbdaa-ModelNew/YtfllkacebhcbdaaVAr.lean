/- Whether a config is right, by definition. -/
import Derived.Test.YtfllkacebhcbdaaVA
namespace Go.Proofs.Ytfllkacebhcbdaa
open Go.RowKit

set_option maxHeartbeats 2000000 in
theorem rright_any (s a c d g k : Int) (w : World) : Calls Try.prog 16 #[.agg (cs s a c d g k)] w fun e w' => e = .returned (.bool (rightB s a c d g k)) ∧ Below w.heap.size w w' := by
  have bel := alloc_below w (.cells #[.int .i64 s, .int .i64 a, .int .i64 c, .int .i64 d, .int .i64 g, .int .i64 k] 40)
  go_enter Try.func16, Try.ntmps16
  go_wp2
  all_goals go_ret
  all_goals
    refine ⟨congrArg (fun b => Ending.returned (Value.bool b)) ?_, bel⟩
    first
      | exact bool_no rightB_iff (by omega)
      | exact bool_of (by rw [rightB_iff]; omega)

end Go.Proofs.Ytfllkacebhcbdaa
