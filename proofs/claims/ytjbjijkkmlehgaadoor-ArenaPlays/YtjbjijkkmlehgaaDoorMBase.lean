/- Contracts of package mem's methods over a memory that lies in the heap, and over none. -/
import Derived.Test.YtjbjijkkmlehgaaDoorRows
import Derived.Test.YtjbjijkkmlehgaaDoorMHeap
import Derived.Laws.BitsAllLaws
import Derived.OpenShut
namespace Go.Proofs.YtjbjijkkmlehgaaDoor.Mm
open Go.RowKit

set_option maxHeartbeats 400000 in
theorem size_any {M G : Nat} {s : MS} {w : World} (h : IsMem w M G s) : Calls Tryd.prog 43 #[.pointer (some ⟨M, 0, none⟩)] w fun e w' => e = .returned (.int .i64 (s.X.length : Nat)) ∧ w = w' := by
  have h0 := h.c0
  go_enter Tryd.func43, Tryd.ntmps43
  go_wp2
  go_ret
  exact ⟨rfl, rfl⟩

set_option maxHeartbeats 400000 in
theorem size_nil (w : World) : Calls Tryd.prog 43 #[.pointer none] w fun e w' => e = .returned (.int .i64 0) ∧ w = w' := by
  go_enter Tryd.func43, Tryd.ntmps43
  go_wp2
  go_ret
  exact ⟨rfl, rfl⟩

set_option maxHeartbeats 400000 in
theorem touches_any {M G : Nat} {s : MS} {w : World} (h : IsMem w M G s) : Calls Tryd.prog 41 #[.pointer (some ⟨M, 0, none⟩)] w fun e w' => e = .returned (.int .i64 s.t) ∧ w = w' := by
  have h1 := h.c1
  go_enter Tryd.func41, Tryd.ntmps41
  go_wp2
  go_ret
  exact ⟨rfl, rfl⟩

set_option maxHeartbeats 400000 in
theorem touches_nil (w : World) : Calls Tryd.prog 41 #[.pointer none] w fun e w' => e = .returned (.int .i64 0) ∧ w = w' := by
  go_enter Tryd.func41, Tryd.ntmps41
  go_wp2
  go_ret
  exact ⟨rfl, rfl⟩

end Go.Proofs.YtjbjijkkmlehgaaDoor.Mm
