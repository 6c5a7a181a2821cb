/- What a model tells: has, Held, Node, hasField, Field; and what kinds are. -/
import Derived.Test.YtecppcakgfohbabNC
namespace Go.Proofs.Ytecppcakgfohbab
open Go.RowKit

set_option maxHeartbeats 400000 in
theorem below_any (i n : Int) (w : World) : Calls Try.prog 66 #[.int .i64 i, .int .i64 n] w fun r w' => r = .returned (.bool (decide (0 ≤ i) && decide (i < n))) ∧ w = w' := by
  by_cases h0 : 0 ≤ i
  · have f0 : decide (0 ≤ i) = true := decide_eq_true h0
    by_cases h1 : i < n
    · have f1 : decide (i < n) = true := decide_eq_true h1
      rw [f0, f1]
      go_enter Try.func66, Try.ntmps66
      go_wp2
      go_ret
      exact ⟨rfl, rfl⟩
    · have f1 : decide (i < n) = false := decide_eq_false h1
      rw [f0, f1]
      go_enter Try.func66, Try.ntmps66
      go_wp2
      go_ret
      exact ⟨rfl, rfl⟩
  · have f0 : decide (0 ≤ i) = false := decide_eq_false h0
    rw [f0, Bool.false_and]
    go_enter Try.func66, Try.ntmps66
    go_wp2
    go_ret
    exact ⟨rfl, rfl⟩
theorem ptr_ne (B : Nat) (w : World) : (binOp BinOp.neq 60 (Value.pointer (some ⟨B, 0, none⟩)) (Value.pointer none)).run Try.prog w = .ok (.bool true) w := by kernel_rfl
set_option maxHeartbeats 400000 in
theorem has_any {w : World} {B : Nat} {L : Nat → Prop} {C : Cg} {n : Nat} {X : Sx} {m : Md} (h : MdOk w B L C n X m) (who : Int) : Calls Try.prog 51 #[.pointer (some ⟨B, 0, none⟩), .int .i64 who] w fun r w' => r = .returned (.bool (decide (0 ≤ who) && decide (who < (C.c : Nat)))) ∧ w = w' := by
  have cB := below_any who (C.c : Nat)
  obtain ⟨x0, x1, x2, x3, x4, x5, x6, x7, x8⟩ := h.cells
  clear h
  go_enter Try.func51, Try.ntmps51
  go_wp2_with (go_at_call 66; with_reducible refine (cB _).mono ?_; rintro r w1 ⟨rfl, rfl⟩)
  go_ret
  exact ⟨rfl, rfl⟩
theorem has_nil (who : Int) (w : World) : Calls Try.prog 51 #[.pointer none, .int .i64 who] w fun r w' => r = .returned (.bool false) ∧ w = w' := by
  go_enter Try.func51, Try.ntmps51
  go_wp2
  go_ret
  exact ⟨rfl, rfl⟩
theorem has_yes {C : Cg} {k : Nat} (hk : k < C.c) : (decide ((0 : Int) ≤ (k : Int)) && decide ((k : Int) < (C.c : Nat))) = true := by
  rw [Bool.and_eq_true, decide_eq_true_eq, decide_eq_true_eq]; omega
theorem has_no {C : Cg} {who : Int} (h : ¬ (0 ≤ who ∧ who < (C.c : Nat))) : (decide (0 ≤ who) && decide (who < (C.c : Nat))) = false := by
  rw [Bool.and_eq_false_iff, decide_eq_false_iff_not, decide_eq_false_iff_not]; omega
end Go.Proofs.Ytecppcakgfohbab
