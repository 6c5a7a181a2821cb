/- What a model tells: has, Held, Node, hasField, Field; and what kinds are. -/
import Derived.Test.YtcccmmhpingmnaaNC
namespace Go.Proofs.Ytcccmmhpingmnaa
open Go.RowKit

set_option maxHeartbeats 400000 in
theorem below_any (i n : Int) (w : World) : Calls Try.prog 51 #[.int .i64 i, .int .i64 n] w fun r w' => r = .returned (.bool (decide (0 ≤ i) && decide (i < n))) ∧ w = w' := by
  by_cases h0 : 0 ≤ i
  · have f0 : decide (0 ≤ i) = true := decide_eq_true h0
    by_cases h1 : i < n
    · have f1 : decide (i < n) = true := decide_eq_true h1
      rw [f0, f1]
      go_enter Try.func51, Try.ntmps51
      go_wp2
      go_ret
      exact ⟨rfl, rfl⟩
    · have f1 : decide (i < n) = false := decide_eq_false h1
      rw [f0, f1]
      go_enter Try.func51, Try.ntmps51
      go_wp2
      go_ret
      exact ⟨rfl, rfl⟩
  · have f0 : decide (0 ≤ i) = false := decide_eq_false h0
    rw [f0, Bool.false_and]
    go_enter Try.func51, Try.ntmps51
    go_wp2
    go_ret
    exact ⟨rfl, rfl⟩
theorem ptr_ne (B : Nat) (w : World) : (binOp BinOp.neq 23 (Value.pointer (some ⟨B, 0, none⟩)) (Value.pointer none)).run Try.prog w = .ok (.bool true) w := by kernel_rfl
set_option maxHeartbeats 400000 in
theorem has_any {w : World} {B : Nat} {L : Nat → Prop} {C : Cg} {n : Nat} {X : Sx} {m : Md} (h : MdOk w B L C n X m) (who : Int) : Calls Try.prog 32 #[.pointer (some ⟨B, 0, none⟩), .int .i64 who] w fun r w' => r = .returned (.bool (decide (0 ≤ who) && decide (who < (C.c : Nat)))) ∧ w = w' := by
  have cB := below_any who (C.c : Nat)
  obtain ⟨x0, x1, x2, x3, x4, x5, x6, x7, x8⟩ := h.cells
  clear h
  go_enter Try.func32, Try.ntmps32
  go_wp2_with (go_at_call 51; with_reducible refine (cB _).mono ?_; rintro r w1 ⟨rfl, rfl⟩)
  go_ret
  exact ⟨rfl, rfl⟩
theorem has_nil (who : Int) (w : World) : Calls Try.prog 32 #[.pointer none, .int .i64 who] w fun r w' => r = .returned (.bool false) ∧ w = w' := by
  go_enter Try.func32, Try.ntmps32
  go_wp2
  go_ret
  exact ⟨rfl, rfl⟩
theorem has_yes {C : Cg} {k : Nat} (hk : k < C.c) : (decide ((0 : Int) ≤ (k : Int)) && decide ((k : Int) < (C.c : Nat))) = true := by
  rw [Bool.and_eq_true, decide_eq_true_eq, decide_eq_true_eq]; omega
theorem has_no {C : Cg} {who : Int} (h : ¬ (0 ≤ who ∧ who < (C.c : Nat))) : (decide (0 ≤ who) && decide (who < (C.c : Nat))) = false := by
  rw [Bool.and_eq_false_iff, decide_eq_false_iff_not, decide_eq_false_iff_not]; omega
set_option maxHeartbeats 1000000 in
theorem mheld_any {w : World} {B : Nat} {L : Nat → Prop} {C : Cg} {n : Nat} {X : Sx} {m : Md} (h : MdOk w B L C n X m) {N : Nat} (iv : X.Inv N) (who : Int) : Calls Try.prog 22 #[.pointer (some ⟨B, 0, none⟩), .int .i64 who] w fun r w' => r = .returned (.int .i64 (heldF who X.H : Nat)) ∧ w = w' := by
  have cH := has_any h who
  obtain ⟨x0, x1, x2, x3, x4, x5, x6, x7, x8⟩ := h.cells
  by_cases hw : 0 ≤ who ∧ who < (C.c : Nat)
  · obtain ⟨k, rfl⟩ : ∃ k : Nat, who = (k : Int) := ⟨who.toNat, by omega⟩
    have hk : k < C.c := by omega
    rw [has_yes hk] at cH
    obtain ⟨y0, y1, y2⟩ := h.kc hk
    have l0 := (h.hs k hk).len 3
    rw [Nat.mul_comm] at y0
    have hkz : (k : Int) < (C.c : Nat) := by omega
    replace cH := hid1 cH
    clear h iv hw x0 x1 x2 x3 x4 x5 x6 x8 y1 y2
    generalize heldF (k : Int) X.H = hh at *
    go_enter Try.func22, Try.ntmps22
    go_wp2_with (go_at_call 32; with_reducible refine cH.out.mono ?_; rintro r w1 ⟨rfl, rfl⟩)
    go_ret
    exact ⟨rfl, rfl⟩
  have e : heldF who X.H = 0 := heldF_out fun x hx => by have := iv.cl x hx; have := h.nc; omega
  rw [e]
  rw [has_no hw] at cH
  replace cH := hid1 cH
  clear h iv e hw
  go_enter Try.func22, Try.ntmps22
  go_wp2_with (go_at_call 32; with_reducible refine cH.out.mono ?_; rintro r w1 ⟨rfl, rfl⟩)
  go_ret
  exact ⟨rfl, rfl⟩
theorem mheld_nil (who : Int) (w : World) : Calls Try.prog 22 #[.pointer none, .int .i64 who] w fun r w' => r = .returned (.int .i64 0) ∧ w = w' := by
  have cH := has_nil who
  go_enter Try.func22, Try.ntmps22
  go_wp2_with (go_at_call 32; with_reducible refine (cH _).mono ?_; rintro r w1 ⟨rfl, rfl⟩)
  go_ret
  exact ⟨rfl, rfl⟩
set_option maxHeartbeats 1000000 in
theorem mnode_any {w : World} {B : Nat} {L : Nat → Prop} {C : Cg} {n : Nat} {X : Sx} {m : Md} (h : MdOk w B L C n X m) {N : Nat} (iv : X.Inv N) (who : Int) {q : Nat} (hq : q < 18446744073709551616) : Calls Try.prog 23 #[.pointer (some ⟨B, 0, none⟩), .int .i64 who, .int .u64 (q : Nat)] w fun r w' => r = .returned (.int .i64 (nodeF who q X.H)) ∧ w = w' := by
  have cH := has_any h who
  obtain ⟨x0, x1, x2, x3, x4, x5, x6, x7, x8⟩ := h.cells
  by_cases hw : 0 ≤ who ∧ who < (C.c : Nat)
  · obtain ⟨k, rfl⟩ : ∃ k : Nat, who = (k : Int) := ⟨who.toNat, by omega⟩
    have hk : k < C.c := by omega
    rw [has_yes hk] at cH
    obtain ⟨y0, y1, y2⟩ := h.kc hk
    have l0 := (h.hs k hk).look hq
    rw [Nat.mul_comm] at y0
    have hkz : (k : Int) < (C.c : Nat) := by omega
    have hb := nodeF_lt iv.ok (k : Int) q
    replace cH := hid1 cH
    clear h iv hw x0 x1 x2 x3 x4 x5 x6 x8 y1 y2
    generalize nodeF (k : Int) q X.H = p at *
    by_cases hp : 0 ≤ p
    · rw [if_pos hp, decide_eq_true hp] at l0
      clear hb
      go_enter Try.func23, Try.ntmps23
      go_wp2_with (go_at_call 32; with_reducible refine cH.out.mono ?_; rintro r w1 ⟨rfl, rfl⟩)
      go_ret
      exact ⟨rfl, rfl⟩
    · rw [if_neg hp, decide_eq_false hp] at l0
      obtain rfl : p = -1 := by omega
      clear hb
      go_enter Try.func23, Try.ntmps23
      go_wp2_with (go_at_call 32; with_reducible refine cH.out.mono ?_; rintro r w1 ⟨rfl, rfl⟩)
      go_ret
      exact ⟨rfl, rfl⟩
  have e : nodeF who q X.H = -1 := nodeF_out fun x hx => by have := iv.cl x hx; have := h.nc; omega
  rw [e]
  rw [has_no hw] at cH
  replace cH := hid1 cH
  clear h iv e hw
  go_enter Try.func23, Try.ntmps23
  go_wp2_with (go_at_call 32; with_reducible refine cH.out.mono ?_; rintro r w1 ⟨rfl, rfl⟩)
  go_ret
  exact ⟨rfl, rfl⟩
theorem mnode_nil (who : Int) (q : Nat) (w : World) : Calls Try.prog 23 #[.pointer none, .int .i64 who, .int .u64 (q : Nat)] w fun r w' => r = .returned (.int .i64 (-1)) ∧ w = w' := by
  have cH := has_nil who
  go_enter Try.func23, Try.ntmps23
  go_wp2_with (go_at_call 32; with_reducible refine (cH _).mono ?_; rintro r w1 ⟨rfl, rfl⟩)
  go_ret
  exact ⟨rfl, rfl⟩
end Go.Proofs.Ytcccmmhpingmnaa
