/- The contract of the document's Parts: two rows are made in one statement that draws its order. -/
import Derived.Test.YtjoehcdkiooimaaTBase
import Derived.RegionTactic
import Derived.ChangeAlike
namespace Go.Proofs.Ytjoehcdkiooimaa
open Go.RowKit

theorem two_new (w : World) (o1 o2 : Obj) : Below w.heap.size w ((w.alloc o1).alloc o2).drew :=
  (((Below.refl w.heap.size w).alloc (Nat.le_refl _) o1).alloc (((Below.refl w.heap.size w).alloc (Nat.le_refl _) o1).size) o2).drew

set_option maxHeartbeats 4000000 in
theorem parts0 (w : World) : Calls Try.prog 9 #[.int .i64 0] w fun r w' => r = .returned (.tuple #[.int .i64 1, .int .i64 0]) ∧ Below w.heap.size w w' := by
  go_enter Try.func9, Try.ntmps9
  go_wp2
  go_region
  all_goals go_wp2
  all_goals go_ret2
  all_goals exact ⟨rfl, two_new w _ _⟩

set_option maxHeartbeats 4000000 in
theorem parts1 (w : World) : Calls Try.prog 9 #[.int .i64 1] w fun r w' => r = .returned (.tuple #[.int .i64 0, .int .i64 1]) ∧ Below w.heap.size w w' := by
  go_enter Try.func9, Try.ntmps9
  go_wp2
  go_region
  all_goals go_wp2
  all_goals go_ret2
  all_goals exact ⟨rfl, two_new w _ _⟩

set_option maxHeartbeats 4000000 in
theorem parts2 (w : World) : Calls Try.prog 9 #[.int .i64 2] w fun r w' => r = .returned (.tuple #[.int .i64 (-1), .int .i64 0]) ∧ Below w.heap.size w w' := by
  go_enter Try.func9, Try.ntmps9
  go_wp2
  go_region
  all_goals go_wp2
  all_goals go_ret2
  all_goals exact ⟨rfl, two_new w _ _⟩

set_option maxHeartbeats 4000000 in
theorem parts3 (w : World) : Calls Try.prog 9 #[.int .i64 3] w fun r w' => r = .returned (.tuple #[.int .i64 0, .int .i64 (-1)]) ∧ Below w.heap.size w w' := by
  go_enter Try.func9, Try.ntmps9
  go_wp2
  go_region
  all_goals go_wp2
  all_goals go_ret2
  all_goals exact ⟨rfl, two_new w _ _⟩

theorem parts_any (q : Nat) (h : q < 4) (w : World) : Calls Try.prog 9 #[.int .i64 (q : Nat)] w fun r w' => r = .returned (.tuple #[.int .i64 (qR q), .int .i64 (qI q)]) ∧ Below w.heap.size w w' := by
  have h4 : q = 0 ∨ q = 1 ∨ q = 2 ∨ q = 3 := by omega
  rcases h4 with rfl | rfl | rfl | rfl
  · exact parts0 w
  · exact parts1 w
  · exact parts2 w
  · exact parts3 w
end Go.Proofs.Ytjoehcdkiooimaa
