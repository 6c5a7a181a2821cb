/- Contracts of package mem's methods over a memory that lies in the heap, and over none. -/
import Derived.Test.YtcpbfbdmfkhaeabRows
import Derived.Test.YtcpbfbdmfkhaeabMHeap
import Derived.Laws.BitsAllLaws
import Derived.OpenShut
namespace Go.Proofs.Ytcpbfbdmfkhaeab.Mm
open Go.RowKit

set_option maxHeartbeats 400000 in
theorem size_any {M G : Nat} {s : MS} {w : World} (h : IsMem w M G s) : Calls Try.prog 41 #[.pointer (some ⟨M, 0, none⟩)] w fun e w' => e = .returned (.int .i64 (s.X.length : Nat)) ∧ w = w' := by
  have h0 := h.c0
  go_enter Try.func41, Try.ntmps41
  go_wp2
  go_ret
  exact ⟨rfl, rfl⟩

set_option maxHeartbeats 400000 in
theorem size_nil (w : World) : Calls Try.prog 41 #[.pointer none] w fun e w' => e = .returned (.int .i64 0) ∧ w = w' := by
  go_enter Try.func41, Try.ntmps41
  go_wp2
  go_ret
  exact ⟨rfl, rfl⟩

set_option maxHeartbeats 400000 in
theorem touches_any {M G : Nat} {s : MS} {w : World} (h : IsMem w M G s) : Calls Try.prog 26 #[.pointer (some ⟨M, 0, none⟩)] w fun e w' => e = .returned (.int .i64 s.t) ∧ w = w' := by
  have h1 := h.c1
  go_enter Try.func26, Try.ntmps26
  go_wp2
  go_ret
  exact ⟨rfl, rfl⟩

set_option maxHeartbeats 400000 in
theorem touches_nil (w : World) : Calls Try.prog 26 #[.pointer none] w fun e w' => e = .returned (.int .i64 0) ∧ w = w' := by
  go_enter Try.func26, Try.ntmps26
  go_wp2
  go_ret
  exact ⟨rfl, rfl⟩

def inR (s : MS) (a : Int) : Bool := decide (0 ≤ a) && decide (a < (s.X.length : Nat))
theorem inR_iff (s : MS) (a : Int) : inR s a = true ↔ 0 ≤ a ∧ a < (s.X.length : Nat) := by simp [inR]
theorem inR_no {s : MS} {a : Int} (h : ¬ (0 ≤ a ∧ a < (s.X.length : Nat))) : inR s a = false := by
  cases e : inR s a
  · rfl
  · exact absurd ((inR_iff s a).1 e) h
def sumW (x y : Nat) : Nat := (x + y) % 18446744073709551616
theorem sumW_lt (x y : Nat) : sumW x y < 18446744073709551616 := Nat.mod_lt _ (by omega)
theorem sumW_eq (x y : Nat) : IntKind.u64.wrap ((x : Int) + (y : Int)) = (sumW x y : Nat) := by rw [IntKind.wrap_u64, sumW]; omega

end Go.Proofs.Ytcpbfbdmfkhaeab.Mm
