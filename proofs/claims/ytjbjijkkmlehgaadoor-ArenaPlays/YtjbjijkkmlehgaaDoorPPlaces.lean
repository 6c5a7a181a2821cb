/- Contracts of plan's places: Size, Pin, Entry, View, Start, Header, Link, Body, Slot; and of 'awake'. -/
import Derived.Test.YtjbjijkkmlehgaaDoorPBase
namespace Go.Proofs.YtjbjijkkmlehgaaDoor
open Go.RowKit

theorem mul_b {x y X Y : Int} (hx : 0 ≤ x ∧ x ≤ X) (hy : 0 ≤ y ∧ y ≤ Y) : 0 ≤ x * y ∧ x * y ≤ X * Y :=
  ⟨Int.mul_nonneg hx.1 hy.1, Int.mul_le_mul hx.2 hy.2 hy.1 (Int.le_trans hx.1 hx.2)⟩

/-- The numbers of a right config. -/
structure Rt (s a c d : Int) : Prop where
  s : 1 ≤ s ∧ s ≤ 64
  a : 0 ≤ a ∧ a ≤ 8
  c : 1 ≤ c ∧ c ≤ 8
  d : 1 ≤ d ∧ d ≤ 16

theorem rt_of {s a c d g k : Int} (h : rightB s a c d g k = true) : Rt s a c d := by
  have := rightB_iff.1 h
  exact ⟨this.1, this.2.1, this.2.2.1, this.2.2.2.1⟩
theorem Rt.cd {s a c d : Int} (h : Rt s a c d) : 0 ≤ c * d ∧ c * d ≤ 128 := mul_b (X := 8) (Y := 16) (by have := h.c; omega) (by have := h.d; omega)

/-- Where the slots begin, how many words a slot has, how many words there are. -/
def fsI (c d : Int) : Int := 4 + c + c * d + 2 * c
def ssI (a : Int) : Int := 2 + bsI a
def szI (s a c d : Int) : Int := fsI c d + s * ssI a

theorem Rt.fs {s a c d : Int} (h : Rt s a c d) : 7 ≤ fsI c d ∧ fsI c d ≤ 156 := by have := h.cd; have := h.c; unfold fsI; omega
theorem Rt.ss {s a c d : Int} (h : Rt s a c d) : 5 ≤ ssI a ∧ ssI a ≤ 10 := by have := bsI_b a h.a; unfold ssI; omega
theorem Rt.sm {s a c d : Int} (h : Rt s a c d) {i : Int} (hi : 0 ≤ i ∧ i ≤ 64) : 0 ≤ i * ssI a ∧ i * ssI a ≤ 640 := mul_b (X := 64) (Y := 10) hi (by have := h.ss; omega)

theorem firstSlot_r {s a c d : Int} (h : Rt s a c d) (g k : Int) (w : World) : Calls Tryd.prog 61 #[.agg (cs s a c d g k)] w fun e w' => e = .returned (.int .i64 (fsI c d)) ∧ Below w.heap.size w w' := firstSlot_any s a c d g k h.c h.cd w
theorem slotSize_r {s a c d : Int} (h : Rt s a c d) (g k : Int) (w : World) : Calls Tryd.prog 62 #[.agg (cs s a c d g k)] w fun e w' => e = .returned (.int .i64 (ssI a)) ∧ Below w.heap.size w w' := slotSize_any s a c d g k h.a w

set_option linter.unusedSimpArgs false in
set_option maxHeartbeats 1000000 in
theorem size_yes {s a c d g k : Int} (hr : rightB s a c d g k = true) (w : World) : Calls Tryd.prog 35 #[.agg (cs s a c d g k)] w fun e w' => e = .returned (.int .i64 (szI s a c d)) ∧ Below w.heap.size w w' := by
  have h := rt_of hr
  have c1 := right_any s a c d g k
  rw [hr] at c1
  have f1 := firstSlot_r h g k
  have f2 := slotSize_r h g k
  have b1 := h.fs
  have b2 := h.ss
  have b3 := h.sm (i := s) (by have := h.s; omega)
  clear h hr
  unfold szI
  generalize fsI c d = F at *
  generalize ssI a = S at *
  have bel := alloc_below w (.cells #[.int .i64 s, .int .i64 a, .int .i64 c, .int .i64 d, .int .i64 g, .int .i64 k] 23)
  have hh := cfg_new w s a c d g k
  go_enter Tryd.func35, Tryd.ntmps35
  go_upto_region 3 with (go_at_call 34; refine (c1 _).mono ?_; rintro e w1 ⟨rfl, b⟩; replace bel := seq_below bel b; replace hh := hh.below b)
  have e1 := in_region f1 w1
  have e3 := in_region f2 w1
  have e2 : ∀ w', Below w1.heap.size w1 w' → _ := fun w' hw' => (hh.below hw').cells
  refine region_below (by kernel_rfl) (by kernel_rfl) ?_
  repeat (first | go_big_quiet_skip | (go_big_quiet_want; go_big_quiet_op; first | go_big_quiet_on | (refine ⟨_, fun _ _ => rfl, ?_⟩; go_big_quiet_on) | (refine ⟨_, e1, ?_⟩; go_big_quiet_on) | (refine ⟨_, e3, ?_⟩; go_big_quiet_on) | (refine ⟨.int .i64 s, ?_, ?_⟩; (focus (intro w' hw'; obtain ⟨l, _⟩ := e2 w' hw'; simp [l, Result.andThen]; done)); go_big_quiet_on) | (refine ⟨.agg (cs s a c d g k), ?_, ?_⟩; (focus (intro w' hw'; obtain ⟨l0, l1, l2, l3, l4, l5⟩ := e2 w' hw'; simp [l0, l1, l2, l3, l4, l5, Result.andThen]; done)); go_big_quiet_on)))
  refine wpQuiet_nil ?_
  intro w8 hb8
  replace bel := seq_below bel hb8
  clear e1 e2 e3
  go_wp2
  go_ret
  exact ⟨rfl, bel⟩

set_option maxHeartbeats 1000000 in
theorem size_no {s a c d g k : Int} (hr : rightB s a c d g k = false) (w : World) : Calls Tryd.prog 35 #[.agg (cs s a c d g k)] w fun e w' => e = .returned (.int .i64 0) ∧ Below w.heap.size w w' := by
  have c1 := right_any s a c d g k
  rw [hr] at c1
  have bel := alloc_below w (.cells #[.int .i64 s, .int .i64 a, .int .i64 c, .int .i64 d, .int .i64 g, .int .i64 k] 23)
  have hh := cfg_new w s a c d g k
  go_enter Tryd.func35, Tryd.ntmps35
  go_wp2_with (go_at_call 34; refine (c1 _).mono ?_; rintro e w1 ⟨rfl, b⟩; replace bel := seq_below bel b; replace hh := hh.below b)
  go_ret
  exact ⟨rfl, bel⟩

set_option maxHeartbeats 1000000 in
theorem header_no {s a c d g k : Int} (i : Int) (hr : (rightB s a c d g k && be i s) = false) (w : World) : Calls Tryd.prog 39 #[.agg (cs s a c d g k), .int .i64 i] w fun e w' => e = .returned (.int .i64 (-1)) ∧ Below w.heap.size w w' := by
  have c1 := hasSlot_any s a c d g k i
  rw [hr] at c1
  have bel := alloc_below w (.cells #[.int .i64 s, .int .i64 a, .int .i64 c, .int .i64 d, .int .i64 g, .int .i64 k] 23)
  have hh := cfg_new w s a c d g k
  go_enter Tryd.func39, Tryd.ntmps39
  go_wp2_with (go_at_call 64; refine (c1 _).mono ?_; rintro e w1 ⟨rfl, b⟩; replace bel := seq_below bel b; replace hh := hh.below b)
  go_ret
  exact ⟨rfl, bel⟩

set_option maxHeartbeats 1000000 in
theorem link_no {s a c d g k : Int} (i : Int) (hr : (rightB s a c d g k && be i s) = false) (w : World) : Calls Tryd.prog 37 #[.agg (cs s a c d g k), .int .i64 i] w fun e w' => e = .returned (.int .i64 (-1)) ∧ Below w.heap.size w w' := by
  have c1 := hasSlot_any s a c d g k i
  rw [hr] at c1
  have bel := alloc_below w (.cells #[.int .i64 s, .int .i64 a, .int .i64 c, .int .i64 d, .int .i64 g, .int .i64 k] 23)
  have hh := cfg_new w s a c d g k
  go_enter Tryd.func37, Tryd.ntmps37
  go_wp2_with (go_at_call 64; refine (c1 _).mono ?_; rintro e w1 ⟨rfl, b⟩; replace bel := seq_below bel b; replace hh := hh.below b)
  go_ret
  exact ⟨rfl, bel⟩

set_option maxHeartbeats 1000000 in
theorem body_no {s a c d g k : Int} (i j : Int) (hr : (rightB s a c d g k && be i s) = false) (w : World) : Calls Tryd.prog 59 #[.agg (cs s a c d g k), .int .i64 i, .int .i64 j] w fun e w' => e = .returned (.int .i64 (-1)) ∧ Below w.heap.size w w' := by
  have c1 := hasSlot_any s a c d g k i
  rw [hr] at c1
  have bel := alloc_below w (.cells #[.int .i64 s, .int .i64 a, .int .i64 c, .int .i64 d, .int .i64 g, .int .i64 k] 23)
  have hh := cfg_new w s a c d g k
  go_enter Tryd.func59, Tryd.ntmps59
  go_wp2_with (go_at_call 64; refine (c1 _).mono ?_; rintro e w1 ⟨rfl, b⟩; replace bel := seq_below bel b; replace hh := hh.below b)
  go_ret
  exact ⟨rfl, bel⟩

set_option linter.unusedSimpArgs false in
set_option maxHeartbeats 1000000 in
theorem header_yes {s a c d g k : Int} (i : Int) (hr : rightB s a c d g k = true) (hi : be i s = true) (w : World) : Calls Tryd.prog 39 #[.agg (cs s a c d g k), .int .i64 i] w fun e w' => e = .returned (.int .i64 (fsI c d + i * ssI a)) ∧ Below w.heap.size w w' := by
  have h := rt_of hr
  have c1 := hasSlot_any s a c d g k i
  rw [hr, hi, Bool.true_and] at c1
  have hi' := be_iff.1 hi
  have hs := h.s
  have b1 := h.fs
  have b2 := h.ss
  have b3 := h.sm (i := i) (by omega)
  have f1 := firstSlot_r h g k
  have f2 := slotSize_r h g k
  clear h hr hi
  generalize fsI c d = F at *
  generalize ssI a = S at *
  have bel := alloc_below w (.cells #[.int .i64 s, .int .i64 a, .int .i64 c, .int .i64 d, .int .i64 g, .int .i64 k] 23)
  have hh := cfg_new w s a c d g k
  go_enter Tryd.func39, Tryd.ntmps39
  go_upto_region 3 with (first
    | (go_at_call 64; refine (c1 _).mono ?_; rintro e w1 ⟨rfl, b⟩; replace bel := seq_below bel b; replace hh := hh.below b; obtain ⟨l0, l1, l2, l3, l4, l5⟩ := hh.cells))
  have e1 := in_region f1 w1
  have e3 := in_region f2 w1
  have e2 : ∀ w', Below w1.heap.size w1 w' → _ := fun w' hw' => (hh.below hw').cells
  refine region_below (by kernel_rfl) (by kernel_rfl) ?_
  repeat (first | go_big_quiet_skip | (go_big_quiet_want; go_big_quiet_op; first | go_big_quiet_on | (refine ⟨_, fun _ _ => rfl, ?_⟩; go_big_quiet_on) | (refine ⟨_, e1, ?_⟩; go_big_quiet_on) | (refine ⟨_, e3, ?_⟩; go_big_quiet_on) | (refine ⟨.agg (cs s a c d g k), ?_, ?_⟩; (focus (intro w' hw'; obtain ⟨l0, l1, l2, l3, l4, l5⟩ := e2 w' hw'; simp [l0, l1, l2, l3, l4, l5, Result.andThen]; done)); go_big_quiet_on)))
  refine wpQuiet_nil ?_
  intro w8 hb8
  replace bel := seq_below bel hb8
  clear e1 e2 e3
  go_wp2
  go_ret
  exact ⟨rfl, bel⟩

set_option linter.unusedSimpArgs false in
set_option maxHeartbeats 1000000 in
theorem link_yes {s a c d g k : Int} (i : Int) (hr : rightB s a c d g k = true) (hi : be i s = true) (w : World) : Calls Tryd.prog 37 #[.agg (cs s a c d g k), .int .i64 i] w fun e w' => e = .returned (.int .i64 (fsI c d + i * ssI a + 1)) ∧ Below w.heap.size w w' := by
  have h := rt_of hr
  have c1 := hasSlot_any s a c d g k i
  rw [hr, hi, Bool.true_and] at c1
  have hi' := be_iff.1 hi
  have hs := h.s
  have b1 := h.fs
  have b3 := h.sm (i := i) (by omega)
  have f1 := header_yes i hr hi
  clear h hr hi
  generalize fsI c d = F at *
  generalize ssI a = S at *
  generalize i * S = P at *
  have bel := alloc_below w (.cells #[.int .i64 s, .int .i64 a, .int .i64 c, .int .i64 d, .int .i64 g, .int .i64 k] 23)
  have hh := cfg_new w s a c d g k
  go_enter Tryd.func37, Tryd.ntmps37
  go_wp2_with (first
    | (go_at_call 64; refine (c1 _).mono ?_; rintro e w1 ⟨rfl, b⟩; replace bel := seq_below bel b; replace hh := hh.below b; obtain ⟨l0, l1, l2, l3, l4, l5⟩ := hh.cells)
    | (go_at_call 39; refine (f1 _).mono ?_; rintro e w1 ⟨rfl, b⟩; replace bel := seq_below bel b))
  go_ret
  exact ⟨rfl, bel⟩

set_option linter.unusedSimpArgs false in
set_option maxHeartbeats 1000000 in
theorem body_yes {s a c d g k : Int} (i j : Int) (hr : rightB s a c d g k = true) (hi : be i s = true) (hj0 : be j (bsI a) = true) (w : World) : Calls Tryd.prog 59 #[.agg (cs s a c d g k), .int .i64 i, .int .i64 j] w fun e w' => e = .returned (.int .i64 (fsI c d + i * ssI a + 2 + j)) ∧ Below w.heap.size w w' := by
  have h := rt_of hr
  have c1 := hasSlot_any s a c d g k i
  rw [hr, hi, Bool.true_and] at c1
  have hi' := be_iff.1 hi
  have hj := be_iff.1 hj0
  have hs := h.s
  have b1 := h.fs
  have b3 := h.sm (i := i) (by omega)
  have b4 := bsI_b a h.a
  have f1 := header_yes i hr hi
  have f2 := bodySize_any s a c d g k
  have c2 := isBelow_any j (bsI a)
  rw [hj0] at c2
  clear h hr hi hj0
  generalize fsI c d = F at *
  generalize ssI a = S at *
  generalize bsI a = B at *
  generalize i * S = P at *
  have bel := alloc_below w (.cells #[.int .i64 s, .int .i64 a, .int .i64 c, .int .i64 d, .int .i64 g, .int .i64 k] 23)
  have hh := cfg_new w s a c d g k
  go_enter Tryd.func59, Tryd.ntmps59
  go_wp2_with (first
    | (go_at_call 64; refine (c1 _).mono ?_; rintro e w1 ⟨rfl, b⟩; replace bel := seq_below bel b; replace hh := hh.below b; obtain ⟨l0, l1, l2, l3, l4, l5⟩ := hh.cells)
    | (go_at_call 39; refine (f1 _).mono ?_; rintro e w1 ⟨rfl, b⟩; replace bel := seq_below bel b)
    | (go_at_call 74; refine (f2 _).mono ?_; rintro e w1 ⟨rfl, b⟩; replace bel := seq_below bel b; replace hh := hh.below b; obtain ⟨l0, l1, l2, l3, l4, l5⟩ := hh.cells)
    | (go_at_call 73; refine (c2 _).mono ?_; rintro e w1 ⟨rfl, rfl⟩))
  go_ret
  exact ⟨rfl, bel⟩

set_option maxHeartbeats 1000000 in
theorem body_no2 {s a c d g k : Int} (i j : Int) (hr : (rightB s a c d g k && be i s) = true) (hj0 : be j (bsI a) = false) (w : World) : Calls Tryd.prog 59 #[.agg (cs s a c d g k), .int .i64 i, .int .i64 j] w fun e w' => e = .returned (.int .i64 (-1)) ∧ Below w.heap.size w w' := by
  have c1 := hasSlot_any s a c d g k i
  rw [hr] at c1
  have c2 := isBelow_any j (bsI a)
  have f2 := bodySize_any s a c d g k
  rw [hj0] at c2
  clear hr hj0
  generalize bsI a = B at *
  have bel := alloc_below w (.cells #[.int .i64 s, .int .i64 a, .int .i64 c, .int .i64 d, .int .i64 g, .int .i64 k] 23)
  have hh := cfg_new w s a c d g k
  go_enter Tryd.func59, Tryd.ntmps59
  go_wp2_with (first
    | (go_at_call 64; refine (c1 _).mono ?_; rintro e w1 ⟨rfl, b⟩; replace bel := seq_below bel b; replace hh := hh.below b; obtain ⟨l0, l1, l2, l3, l4, l5⟩ := hh.cells)
    | (go_at_call 74; refine (f2 _).mono ?_; rintro e w1 ⟨rfl, b⟩; replace bel := seq_below bel b; replace hh := hh.below b; obtain ⟨l0, l1, l2, l3, l4, l5⟩ := hh.cells)
    | (go_at_call 73; refine (c2 _).mono ?_; rintro e w1 ⟨rfl, rfl⟩))
  go_ret
  exact ⟨rfl, bel⟩

end Go.Proofs.YtjbjijkkmlehgaaDoor
