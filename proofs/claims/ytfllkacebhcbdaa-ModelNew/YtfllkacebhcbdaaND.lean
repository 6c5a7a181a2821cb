/- What a model tells: has, Held, Node, hasField, Field; and what kinds are. -/
import Derived.Test.YtfllkacebhcbdaaNC
namespace Go.Proofs.Ytfllkacebhcbdaa
open Go.RowKit

theorem MdOk.six {w : World} {B : Nat} {L : Nat → Prop} {C : Cg} {n : Nat} {X : Sx} {m : Md} (h : MdOk w B L C n X m) : w.cell? ⟨m.Bc, 0, none⟩ = some (.map (some m.b0)) ∧ w.cell? ⟨m.Bc, 1, none⟩ = some (.int .u64 (wkF X 0 : Nat)) ∧ w.cell? ⟨m.Bc, 2, none⟩ = some m.c0 ∧ w.cell? ⟨m.Bc, 3, none⟩ = some (.map (some m.b1)) ∧ w.cell? ⟨m.Bc, 4, none⟩ = some (.int .u64 (wkF X 1 : Nat)) ∧ w.cell? ⟨m.Bc, 5, none⟩ = some m.c1 := by
  have h' := h.cl
  simp [World.cell?, h']
set_option maxHeartbeats 400000 in
theorem below_any (i n : Int) (w : World) : Calls Try.prog 35 #[.int .i64 i, .int .i64 n] w fun r w' => r = .returned (.bool (decide (0 ≤ i) && decide (i < n))) ∧ w = w' := by
  by_cases h0 : 0 ≤ i
  · have f0 : decide (0 ≤ i) = true := decide_eq_true h0
    by_cases h1 : i < n
    · have f1 : decide (i < n) = true := decide_eq_true h1
      rw [f0, f1]
      go_enter Try.func35, Try.ntmps35
      go_wp2
      go_ret
      exact ⟨rfl, rfl⟩
    · have f1 : decide (i < n) = false := decide_eq_false h1
      rw [f0, f1]
      go_enter Try.func35, Try.ntmps35
      go_wp2
      go_ret
      exact ⟨rfl, rfl⟩
  · have f0 : decide (0 ≤ i) = false := decide_eq_false h0
    rw [f0, Bool.false_and]
    go_enter Try.func35, Try.ntmps35
    go_wp2
    go_ret
    exact ⟨rfl, rfl⟩
theorem ptr_ne (B : Nat) (w : World) : (binOp BinOp.neq 41 (Value.pointer (some ⟨B, 0, none⟩)) (Value.pointer none)).run Try.prog w = .ok (.bool true) w := by kernel_rfl
set_option maxHeartbeats 400000 in
theorem has_any {w : World} {B : Nat} {L : Nat → Prop} {C : Cg} {n : Nat} {X : Sx} {m : Md} (h : MdOk w B L C n X m) (who : Int) : Calls Try.prog 25 #[.pointer (some ⟨B, 0, none⟩), .int .i64 who] w fun r w' => r = .returned (.bool (decide (0 ≤ who) && decide (who < 2))) ∧ w = w' := by
  have cB := below_any who 2
  obtain ⟨x0, x1, x2, x3, x4, x5, x6, x7, x8⟩ := h.cells
  clear h
  go_enter Try.func25, Try.ntmps25
  go_wp2_with (go_at_call 35; with_reducible refine (cB _).mono ?_; rintro r w1 ⟨rfl, rfl⟩)
  go_ret
  exact ⟨rfl, rfl⟩
theorem has_nil (who : Int) (w : World) : Calls Try.prog 25 #[.pointer none, .int .i64 who] w fun r w' => r = .returned (.bool false) ∧ w = w' := by
  go_enter Try.func25, Try.ntmps25
  go_wp2
  go_ret
  exact ⟨rfl, rfl⟩
set_option maxHeartbeats 1000000 in
theorem mheld_any {w : World} {B : Nat} {L : Nat → Prop} {C : Cg} {n : Nat} {X : Sx} {m : Md} (h : MdOk w B L C n X m) {N : Nat} (iv : X.Inv N) (who : Int) : Calls Try.prog 21 #[.pointer (some ⟨B, 0, none⟩), .int .i64 who] w fun r w' => r = .returned (.int .i64 (heldF who X.H : Nat)) ∧ w = w' := by
  have cH := has_any h who
  obtain ⟨x0, x1, x2, x3, x4, x5, x6, x7, x8⟩ := h.cells
  obtain ⟨y0, y1, y2, y3, y4, y5⟩ := h.six
  have l0 := h.h0.len 3
  have l1 := h.h1.len 3
  by_cases h0 : who = 0
  · subst h0
    replace cH := hid1 cH
    clear h iv l1
    generalize heldF 0 X.H = hh at *
    go_enter Try.func21, Try.ntmps21
    go_wp2_with (go_at_call 25; with_reducible refine cH.out.mono ?_; rintro r w1 ⟨rfl, rfl⟩)
    go_ret
    exact ⟨rfl, rfl⟩
  by_cases h1 : who = 1
  · subst h1
    replace cH := hid1 cH
    clear h iv l0
    generalize heldF 1 X.H = hh at *
    go_enter Try.func21, Try.ntmps21
    go_wp2_with (go_at_call 25; with_reducible refine cH.out.mono ?_; rintro r w1 ⟨rfl, rfl⟩)
    go_ret
    exact ⟨rfl, rfl⟩
  have e : heldF who X.H = 0 := heldF_out fun x hx => by have := iv.cl x hx; omega
  have f : (decide (0 ≤ who) && decide (who < 2)) = false := by
    rw [Bool.and_eq_false_iff, decide_eq_false_iff_not, decide_eq_false_iff_not]; omega
  rw [e]
  rw [f] at cH
  replace cH := hid1 cH
  clear h iv l0 l1 e f h0 h1
  go_enter Try.func21, Try.ntmps21
  go_wp2_with (go_at_call 25; with_reducible refine cH.out.mono ?_; rintro r w1 ⟨rfl, rfl⟩)
  go_ret
  exact ⟨rfl, rfl⟩
theorem mheld_nil (who : Int) (w : World) : Calls Try.prog 21 #[.pointer none, .int .i64 who] w fun r w' => r = .returned (.int .i64 0) ∧ w = w' := by
  have cH := has_nil who
  go_enter Try.func21, Try.ntmps21
  go_wp2_with (go_at_call 25; with_reducible refine (cH _).mono ?_; rintro r w1 ⟨rfl, rfl⟩)
  go_ret
  exact ⟨rfl, rfl⟩
set_option maxHeartbeats 1000000 in
theorem mnode_any {w : World} {B : Nat} {L : Nat → Prop} {C : Cg} {n : Nat} {X : Sx} {m : Md} (h : MdOk w B L C n X m) {N : Nat} (iv : X.Inv N) (who : Int) {q : Nat} (hq : q < 18446744073709551616) : Calls Try.prog 22 #[.pointer (some ⟨B, 0, none⟩), .int .i64 who, .int .u64 (q : Nat)] w fun r w' => r = .returned (.int .i64 (nodeF who q X.H)) ∧ w = w' := by
  have cH := has_any h who
  obtain ⟨x0, x1, x2, x3, x4, x5, x6, x7, x8⟩ := h.cells
  obtain ⟨y0, y1, y2, y3, y4, y5⟩ := h.six
  have l0 := h.h0.look hq
  have l1 := h.h1.look hq
  have hb := nodeF_lt iv.ok who q
  by_cases h0 : who = 0
  · subst h0
    replace cH := hid1 cH
    clear h l1
    generalize nodeF 0 q X.H = p at *
    clear iv
    by_cases hp : 0 ≤ p
    · rw [if_pos hp, decide_eq_true hp] at l0
      clear hb
      go_enter Try.func22, Try.ntmps22
      go_wp2_with (go_at_call 25; with_reducible refine cH.out.mono ?_; rintro r w1 ⟨rfl, rfl⟩)
      go_ret
      exact ⟨rfl, rfl⟩
    · rw [if_neg hp, decide_eq_false hp] at l0
      obtain rfl : p = -1 := by omega
      clear hb
      go_enter Try.func22, Try.ntmps22
      go_wp2_with (go_at_call 25; with_reducible refine cH.out.mono ?_; rintro r w1 ⟨rfl, rfl⟩)
      go_ret
      exact ⟨rfl, rfl⟩
  by_cases h1 : who = 1
  · subst h1
    replace cH := hid1 cH
    clear h l0
    generalize nodeF 1 q X.H = p at *
    clear iv
    by_cases hp : 0 ≤ p
    · rw [if_pos hp, decide_eq_true hp] at l1
      clear hb
      go_enter Try.func22, Try.ntmps22
      go_wp2_with (go_at_call 25; with_reducible refine cH.out.mono ?_; rintro r w1 ⟨rfl, rfl⟩)
      go_ret
      exact ⟨rfl, rfl⟩
    · rw [if_neg hp, decide_eq_false hp] at l1
      obtain rfl : p = -1 := by omega
      clear hb
      go_enter Try.func22, Try.ntmps22
      go_wp2_with (go_at_call 25; with_reducible refine cH.out.mono ?_; rintro r w1 ⟨rfl, rfl⟩)
      go_ret
      exact ⟨rfl, rfl⟩
  have e : nodeF who q X.H = -1 := nodeF_out fun x hx => by have := iv.cl x hx; omega
  have f : (decide (0 ≤ who) && decide (who < 2)) = false := by
    rw [Bool.and_eq_false_iff, decide_eq_false_iff_not, decide_eq_false_iff_not]; omega
  rw [e]
  rw [f] at cH
  replace cH := hid1 cH
  clear h iv l0 l1 e f h0 h1 hb
  go_enter Try.func22, Try.ntmps22
  go_wp2_with (go_at_call 25; with_reducible refine cH.out.mono ?_; rintro r w1 ⟨rfl, rfl⟩)
  go_ret
  exact ⟨rfl, rfl⟩
theorem mnode_nil (who : Int) (q : Nat) (w : World) : Calls Try.prog 22 #[.pointer none, .int .i64 who, .int .u64 (q : Nat)] w fun r w' => r = .returned (.int .i64 (-1)) ∧ w = w' := by
  have cH := has_nil who
  go_enter Try.func22, Try.ntmps22
  go_wp2_with (go_at_call 25; with_reducible refine (cH _).mono ?_; rintro r w1 ⟨rfl, rfl⟩)
  go_ret
  exact ⟨rfl, rfl⟩
end Go.Proofs.Ytfllkacebhcbdaa
