/- Contracts of plan's places: Size, Pin, Entry, View, Start, Header, Link, Body, Slot; and of 'awake'. -/
import Derived.Test.YtnegdabcjnhpdaaGreatDoorPBase
namespace Go.Proofs.YtnegdabcjnhpdaaGreatDoor
open Go.RowKit

theorem mul_b {x y X Y : Int} (hx : 0 ≤ x ∧ x ≤ X) (hy : 0 ≤ y ∧ y ≤ Y) : 0 ≤ x * y ∧ x * y ≤ X * Y :=
  ⟨Int.mul_nonneg hx.1 hy.1, Int.mul_le_mul hx.2 hy.2 hy.1 (Int.le_trans hx.1 hx.2)⟩

/-- The numbers of a right config. -/
structure Rt (s a c d : Int) : Prop where
  s : 1 ≤ s ∧ s ≤ 64
  a : 0 ≤ a ∧ a ≤ 8
  c : 1 ≤ c ∧ c ≤ 8
  d : 1 ≤ d ∧ d ≤ 16

theorem rt_of {s a c d g k : Int} (h : rightB s a c d g k = true) : Rt s a c d := by
  have := rightB_iff.1 h
  exact ⟨this.1, this.2.1, this.2.2.1, this.2.2.2.1⟩
theorem Rt.cd {s a c d : Int} (h : Rt s a c d) : 0 ≤ c * d ∧ c * d ≤ 128 := mul_b (X := 8) (Y := 16) (by have := h.c; omega) (by have := h.d; omega)

/-- Where the slots begin, how many words a slot has, how many words there are. -/
def fsI (c d : Int) : Int := 4 + c + c * d + 2 * c
def ssI (a : Int) : Int := 2 + bsI a
def szI (s a c d : Int) : Int := fsI c d + s * ssI a

theorem Rt.fs {s a c d : Int} (h : Rt s a c d) : 7 ≤ fsI c d ∧ fsI c d ≤ 156 := by have := h.cd; have := h.c; unfold fsI; omega
theorem Rt.ss {s a c d : Int} (h : Rt s a c d) : 5 ≤ ssI a ∧ ssI a ≤ 10 := by have := bsI_b a h.a; unfold ssI; omega
theorem Rt.sm {s a c d : Int} (h : Rt s a c d) {i : Int} (hi : 0 ≤ i ∧ i ≤ 64) : 0 ≤ i * ssI a ∧ i * ssI a ≤ 640 := mul_b (X := 64) (Y := 10) hi (by have := h.ss; omega)

theorem firstSlot_r {s a c d : Int} (h : Rt s a c d) (g k : Int) (w : World) : Calls Tryz.prog 81 #[.agg (cs s a c d g k)] w fun e w' => e = .returned (.int .i64 (fsI c d)) ∧ Below w.heap.size w w' := firstSlot_any s a c d g k h.c h.cd w
theorem slotSize_r {s a c d : Int} (h : Rt s a c d) (g k : Int) (w : World) : Calls Tryz.prog 82 #[.agg (cs s a c d g k)] w fun e w' => e = .returned (.int .i64 (ssI a)) ∧ Below w.heap.size w w' := slotSize_any s a c d g k h.a w

set_option maxHeartbeats 1000000 in
theorem header_no {s a c d g k : Int} (i : Int) (hr : (rightB s a c d g k && be i s) = false) (w : World) : Calls Tryz.prog 65 #[.agg (cs s a c d g k), .int .i64 i] w fun e w' => e = .returned (.int .i64 (-1)) ∧ Below w.heap.size w w' := by
  have c1 := hasSlot_any s a c d g k i
  rw [hr] at c1
  have bel := alloc_below w (.cells #[.int .i64 s, .int .i64 a, .int .i64 c, .int .i64 d, .int .i64 g, .int .i64 k] 30)
  have hh := cfg_new w s a c d g k
  go_enter Tryz.func65, Tryz.ntmps65
  go_wp2_with (go_at_call 62; refine (c1 _).mono ?_; rintro e w1 ⟨rfl, b⟩; replace bel := seq_below bel b; replace hh := hh.below b)
  go_ret
  exact ⟨rfl, bel⟩

set_option linter.unusedSimpArgs false in
set_option maxHeartbeats 1000000 in
theorem header_yes {s a c d g k : Int} (i : Int) (hr : rightB s a c d g k = true) (hi : be i s = true) (w : World) : Calls Tryz.prog 65 #[.agg (cs s a c d g k), .int .i64 i] w fun e w' => e = .returned (.int .i64 (fsI c d + i * ssI a)) ∧ Below w.heap.size w w' := by
  have h := rt_of hr
  have c1 := hasSlot_any s a c d g k i
  rw [hr, hi, Bool.true_and] at c1
  have hi' := be_iff.1 hi
  have hs := h.s
  have b1 := h.fs
  have b2 := h.ss
  have b3 := h.sm (i := i) (by omega)
  have f1 := firstSlot_r h g k
  have f2 := slotSize_r h g k
  clear h hr hi
  generalize fsI c d = F at *
  generalize ssI a = S at *
  have bel := alloc_below w (.cells #[.int .i64 s, .int .i64 a, .int .i64 c, .int .i64 d, .int .i64 g, .int .i64 k] 30)
  have hh := cfg_new w s a c d g k
  go_enter Tryz.func65, Tryz.ntmps65
  go_upto_region 3 with (first
    | (go_at_call 62; refine (c1 _).mono ?_; rintro e w1 ⟨rfl, b⟩; replace bel := seq_below bel b; replace hh := hh.below b; obtain ⟨l0, l1, l2, l3, l4, l5⟩ := hh.cells))
  have e1 := in_region f1 w1
  have e3 := in_region f2 w1
  have e2 : ∀ w', Below w1.heap.size w1 w' → _ := fun w' hw' => (hh.below hw').cells
  refine region_below (by kernel_rfl) (by kernel_rfl) ?_
  repeat (first | go_big_quiet_skip | (go_big_quiet_want; go_big_quiet_op; first | go_big_quiet_on | (refine ⟨_, fun _ _ => rfl, ?_⟩; go_big_quiet_on) | (refine ⟨_, e1, ?_⟩; go_big_quiet_on) | (refine ⟨_, e3, ?_⟩; go_big_quiet_on) | (refine ⟨.agg (cs s a c d g k), ?_, ?_⟩; (focus (intro w' hw'; obtain ⟨l0, l1, l2, l3, l4, l5⟩ := e2 w' hw'; simp [l0, l1, l2, l3, l4, l5, Result.andThen]; done)); go_big_quiet_on)))
  refine wpQuiet_nil ?_
  intro w8 hb8
  replace bel := seq_below bel hb8
  clear e1 e2 e3
  go_wp2
  go_ret
  exact ⟨rfl, bel⟩

end Go.Proofs.YtnegdabcjnhpdaaGreatDoor
