/- Contracts of package mem's methods over a memory that lies in the heap, and over none. -/
import Derived.Test.YtnegdabcjnhpdaaDoorRows
import Derived.Test.YtnegdabcjnhpdaaDoorMHeap
import Derived.Laws.BitsAllLaws
import Derived.OpenShut
namespace Go.Proofs.YtnegdabcjnhpdaaDoor.Mm
open Go.RowKit

set_option maxHeartbeats 400000 in
theorem size_any {M G : Nat} {s : MS} {w : World} (h : IsMem w M G s) : Calls Tryd.prog 83 #[.pointer (some ⟨M, 0, none⟩)] w fun e w' => e = .returned (.int .i64 (s.X.length : Nat)) ∧ w = w' := by
  have h0 := h.c0
  go_enter Tryd.func83, Tryd.ntmps83
  go_wp2
  go_ret
  exact ⟨rfl, rfl⟩

set_option maxHeartbeats 400000 in
theorem size_nil (w : World) : Calls Tryd.prog 83 #[.pointer none] w fun e w' => e = .returned (.int .i64 0) ∧ w = w' := by
  go_enter Tryd.func83, Tryd.ntmps83
  go_wp2
  go_ret
  exact ⟨rfl, rfl⟩

set_option maxHeartbeats 400000 in
theorem touches_any {M G : Nat} {s : MS} {w : World} (h : IsMem w M G s) : Calls Tryd.prog 34 #[.pointer (some ⟨M, 0, none⟩)] w fun e w' => e = .returned (.int .i64 s.t) ∧ w = w' := by
  have h1 := h.c1
  go_enter Tryd.func34, Tryd.ntmps34
  go_wp2
  go_ret
  exact ⟨rfl, rfl⟩

set_option maxHeartbeats 400000 in
theorem touches_nil (w : World) : Calls Tryd.prog 34 #[.pointer none] w fun e w' => e = .returned (.int .i64 0) ∧ w = w' := by
  go_enter Tryd.func34, Tryd.ntmps34
  go_wp2
  go_ret
  exact ⟨rfl, rfl⟩

end Go.Proofs.YtnegdabcjnhpdaaDoor.Mm
