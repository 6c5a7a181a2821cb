/- Contracts of plan's places: Size, Pin, Entry, View, Start, Header, Link, Body, Slot; and of 'awake'. -/
import Derived.Test.YtcpbfbdmfkhaeabPBase
namespace Go.Proofs.Ytcpbfbdmfkhaeab
open Go.RowKit

theorem mul_b {x y X Y : Int} (hx : 0 ≤ x ∧ x ≤ X) (hy : 0 ≤ y ∧ y ≤ Y) : 0 ≤ x * y ∧ x * y ≤ X * Y :=
  ⟨Int.mul_nonneg hx.1 hy.1, Int.mul_le_mul hx.2 hy.2 hy.1 (Int.le_trans hx.1 hx.2)⟩

/-- The numbers of a right config. -/
structure Rt (s a c d : Int) : Prop where
  s : 1 ≤ s ∧ s ≤ 64
  a : 0 ≤ a ∧ a ≤ 8
  c : 1 ≤ c ∧ c ≤ 8
  d : 1 ≤ d ∧ d ≤ 16

theorem rt_of {s a c d g k : Int} (h : rightB s a c d g k = true) : Rt s a c d := by
  have := rightB_iff.1 h
  exact ⟨this.1, this.2.1, this.2.2.1, this.2.2.2.1⟩
theorem Rt.cd {s a c d : Int} (h : Rt s a c d) : 0 ≤ c * d ∧ c * d ≤ 128 := mul_b (X := 8) (Y := 16) (by have := h.c; omega) (by have := h.d; omega)

/-- Where the slots begin, how many words a slot has, how many words there are. -/
def fsI (c d : Int) : Int := 4 + c + c * d + 2 * c
def ssI (a : Int) : Int := 2 + bsI a
def szI (s a c d : Int) : Int := fsI c d + s * ssI a

theorem Rt.fs {s a c d : Int} (h : Rt s a c d) : 7 ≤ fsI c d ∧ fsI c d ≤ 156 := by have := h.cd; have := h.c; unfold fsI; omega
theorem Rt.ss {s a c d : Int} (h : Rt s a c d) : 5 ≤ ssI a ∧ ssI a ≤ 10 := by have := bsI_b a h.a; unfold ssI; omega
theorem Rt.sm {s a c d : Int} (h : Rt s a c d) {i : Int} (hi : 0 ≤ i ∧ i ≤ 64) : 0 ≤ i * ssI a ∧ i * ssI a ≤ 640 := mul_b (X := 64) (Y := 10) hi (by have := h.ss; omega)

theorem firstSlot_r {s a c d : Int} (h : Rt s a c d) (g k : Int) (w : World) : Calls Try.prog 31 #[.agg (cs s a c d g k)] w fun e w' => e = .returned (.int .i64 (fsI c d)) ∧ Below w.heap.size w w' := firstSlot_any s a c d g k h.c h.cd w
theorem slotSize_r {s a c d : Int} (h : Rt s a c d) (g k : Int) (w : World) : Calls Try.prog 32 #[.agg (cs s a c d g k)] w fun e w' => e = .returned (.int .i64 (ssI a)) ∧ Below w.heap.size w w' := slotSize_any s a c d g k h.a w

set_option linter.unusedSimpArgs false in
set_option maxHeartbeats 1000000 in
theorem size_yes {s a c d g k : Int} (hr : rightB s a c d g k = true) (w : World) : Calls Try.prog 11 #[.agg (cs s a c d g k)] w fun e w' => e = .returned (.int .i64 (szI s a c d)) ∧ Below w.heap.size w w' := by
  have h := rt_of hr
  have c1 := right_any s a c d g k
  rw [hr] at c1
  have f1 := firstSlot_r h g k
  have f2 := slotSize_r h g k
  have b1 := h.fs
  have b2 := h.ss
  have b3 := h.sm (i := s) (by have := h.s; omega)
  clear h hr
  unfold szI
  generalize fsI c d = F at *
  generalize ssI a = S at *
  have bel := alloc_below w (.cells #[.int .i64 s, .int .i64 a, .int .i64 c, .int .i64 d, .int .i64 g, .int .i64 k] 23)
  have hh := cfg_new w s a c d g k
  go_enter Try.func11, Try.ntmps11
  go_upto_region 3 with (go_at_call 10; refine (c1 _).mono ?_; rintro e w1 ⟨rfl, b⟩; replace bel := seq_below bel b; replace hh := hh.below b)
  have e1 := in_region f1 w1
  have e3 := in_region f2 w1
  have e2 : ∀ w', Below w1.heap.size w1 w' → _ := fun w' hw' => (hh.below hw').cells
  refine region_below (by kernel_rfl) (by kernel_rfl) ?_
  repeat (first | go_big_quiet_skip | (go_big_quiet_want; go_big_quiet_op; first | go_big_quiet_on | (refine ⟨_, fun _ _ => rfl, ?_⟩; go_big_quiet_on) | (refine ⟨_, e1, ?_⟩; go_big_quiet_on) | (refine ⟨_, e3, ?_⟩; go_big_quiet_on) | (refine ⟨.int .i64 s, ?_, ?_⟩; (focus (intro w' hw'; obtain ⟨l, _⟩ := e2 w' hw'; simp [l, Result.andThen]; done)); go_big_quiet_on) | (refine ⟨.agg (cs s a c d g k), ?_, ?_⟩; (focus (intro w' hw'; obtain ⟨l0, l1, l2, l3, l4, l5⟩ := e2 w' hw'; simp [l0, l1, l2, l3, l4, l5, Result.andThen]; done)); go_big_quiet_on)))
  refine wpQuiet_nil ?_
  intro w8 hb8
  replace bel := seq_below bel hb8
  clear e1 e2 e3
  go_wp2
  go_ret
  exact ⟨rfl, bel⟩

set_option maxHeartbeats 1000000 in
theorem size_no {s a c d g k : Int} (hr : rightB s a c d g k = false) (w : World) : Calls Try.prog 11 #[.agg (cs s a c d g k)] w fun e w' => e = .returned (.int .i64 0) ∧ Below w.heap.size w w' := by
  have c1 := right_any s a c d g k
  rw [hr] at c1
  have bel := alloc_below w (.cells #[.int .i64 s, .int .i64 a, .int .i64 c, .int .i64 d, .int .i64 g, .int .i64 k] 23)
  have hh := cfg_new w s a c d g k
  go_enter Try.func11, Try.ntmps11
  go_wp2_with (go_at_call 10; refine (c1 _).mono ?_; rintro e w1 ⟨rfl, b⟩; replace bel := seq_below bel b; replace hh := hh.below b)
  go_ret
  exact ⟨rfl, bel⟩

set_option maxHeartbeats 1000000 in
theorem pin_no {s a c d g k : Int} (i : Int) (hr : (rightB s a c d g k && be i c) = false) (w : World) : Calls Try.prog 13 #[.agg (cs s a c d g k), .int .i64 i] w fun e w' => e = .returned (.int .i64 (-1)) ∧ Below w.heap.size w w' := by
  have c1 := hasClient_any s a c d g k i
  rw [hr] at c1
  have bel := alloc_below w (.cells #[.int .i64 s, .int .i64 a, .int .i64 c, .int .i64 d, .int .i64 g, .int .i64 k] 23)
  have hh := cfg_new w s a c d g k
  go_enter Try.func13, Try.ntmps13
  go_wp2_with (go_at_call 33; refine (c1 _).mono ?_; rintro e w1 ⟨rfl, b⟩; replace bel := seq_below bel b; replace hh := hh.below b)
  go_ret
  exact ⟨rfl, bel⟩

set_option maxHeartbeats 1000000 in
theorem entry_no {s a c d g k : Int} (i j : Int) (hr : (rightB s a c d g k && be i c) = false) (w : World) : Calls Try.prog 15 #[.agg (cs s a c d g k), .int .i64 i, .int .i64 j] w fun e w' => e = .returned (.int .i64 (-1)) ∧ Below w.heap.size w w' := by
  have c1 := hasClient_any s a c d g k i
  rw [hr] at c1
  have bel := alloc_below w (.cells #[.int .i64 s, .int .i64 a, .int .i64 c, .int .i64 d, .int .i64 g, .int .i64 k] 23)
  have hh := cfg_new w s a c d g k
  go_enter Try.func15, Try.ntmps15
  go_wp2_with (go_at_call 33; refine (c1 _).mono ?_; rintro e w1 ⟨rfl, b⟩; replace bel := seq_below bel b; replace hh := hh.below b)
  go_ret
  exact ⟨rfl, bel⟩

set_option maxHeartbeats 1000000 in
theorem view_no {s a c d g k : Int} (i : Int) (hr : (rightB s a c d g k && be i c) = false) (w : World) : Calls Try.prog 16 #[.agg (cs s a c d g k), .int .i64 i] w fun e w' => e = .returned (.int .i64 (-1)) ∧ Below w.heap.size w w' := by
  have c1 := hasClient_any s a c d g k i
  rw [hr] at c1
  have bel := alloc_below w (.cells #[.int .i64 s, .int .i64 a, .int .i64 c, .int .i64 d, .int .i64 g, .int .i64 k] 23)
  have hh := cfg_new w s a c d g k
  go_enter Try.func16, Try.ntmps16
  go_wp2_with (go_at_call 33; refine (c1 _).mono ?_; rintro e w1 ⟨rfl, b⟩; replace bel := seq_below bel b; replace hh := hh.below b)
  go_ret
  exact ⟨rfl, bel⟩

set_option maxHeartbeats 1000000 in
theorem start_no {s a c d g k : Int} (i : Int) (hr : (rightB s a c d g k && be i c) = false) (w : World) : Calls Try.prog 17 #[.agg (cs s a c d g k), .int .i64 i] w fun e w' => e = .returned (.int .i64 (-1)) ∧ Below w.heap.size w w' := by
  have c1 := hasClient_any s a c d g k i
  rw [hr] at c1
  have bel := alloc_below w (.cells #[.int .i64 s, .int .i64 a, .int .i64 c, .int .i64 d, .int .i64 g, .int .i64 k] 23)
  have hh := cfg_new w s a c d g k
  go_enter Try.func17, Try.ntmps17
  go_wp2_with (go_at_call 33; refine (c1 _).mono ?_; rintro e w1 ⟨rfl, b⟩; replace bel := seq_below bel b; replace hh := hh.below b)
  go_ret
  exact ⟨rfl, bel⟩

set_option maxHeartbeats 1000000 in
theorem header_no {s a c d g k : Int} (i : Int) (hr : (rightB s a c d g k && be i s) = false) (w : World) : Calls Try.prog 18 #[.agg (cs s a c d g k), .int .i64 i] w fun e w' => e = .returned (.int .i64 (-1)) ∧ Below w.heap.size w w' := by
  have c1 := hasSlot_any s a c d g k i
  rw [hr] at c1
  have bel := alloc_below w (.cells #[.int .i64 s, .int .i64 a, .int .i64 c, .int .i64 d, .int .i64 g, .int .i64 k] 23)
  have hh := cfg_new w s a c d g k
  go_enter Try.func18, Try.ntmps18
  go_wp2_with (go_at_call 37; refine (c1 _).mono ?_; rintro e w1 ⟨rfl, b⟩; replace bel := seq_below bel b; replace hh := hh.below b)
  go_ret
  exact ⟨rfl, bel⟩

set_option maxHeartbeats 1000000 in
theorem link_no {s a c d g k : Int} (i : Int) (hr : (rightB s a c d g k && be i s) = false) (w : World) : Calls Try.prog 19 #[.agg (cs s a c d g k), .int .i64 i] w fun e w' => e = .returned (.int .i64 (-1)) ∧ Below w.heap.size w w' := by
  have c1 := hasSlot_any s a c d g k i
  rw [hr] at c1
  have bel := alloc_below w (.cells #[.int .i64 s, .int .i64 a, .int .i64 c, .int .i64 d, .int .i64 g, .int .i64 k] 23)
  have hh := cfg_new w s a c d g k
  go_enter Try.func19, Try.ntmps19
  go_wp2_with (go_at_call 37; refine (c1 _).mono ?_; rintro e w1 ⟨rfl, b⟩; replace bel := seq_below bel b; replace hh := hh.below b)
  go_ret
  exact ⟨rfl, bel⟩

set_option maxHeartbeats 1000000 in
theorem body_no {s a c d g k : Int} (i j : Int) (hr : (rightB s a c d g k && be i s) = false) (w : World) : Calls Try.prog 20 #[.agg (cs s a c d g k), .int .i64 i, .int .i64 j] w fun e w' => e = .returned (.int .i64 (-1)) ∧ Below w.heap.size w w' := by
  have c1 := hasSlot_any s a c d g k i
  rw [hr] at c1
  have bel := alloc_below w (.cells #[.int .i64 s, .int .i64 a, .int .i64 c, .int .i64 d, .int .i64 g, .int .i64 k] 23)
  have hh := cfg_new w s a c d g k
  go_enter Try.func20, Try.ntmps20
  go_wp2_with (go_at_call 37; refine (c1 _).mono ?_; rintro e w1 ⟨rfl, b⟩; replace bel := seq_below bel b; replace hh := hh.below b)
  go_ret
  exact ⟨rfl, bel⟩

set_option linter.unusedSimpArgs false in
set_option maxHeartbeats 1000000 in
theorem pin_yes {s a c d g k : Int} (i : Int) (hr : rightB s a c d g k = true) (hi : be i c = true) (w : World) : Calls Try.prog 13 #[.agg (cs s a c d g k), .int .i64 i] w fun e w' => e = .returned (.int .i64 (4 + i)) ∧ Below w.heap.size w w' := by
  have h := rt_of hr
  have c1 := hasClient_any s a c d g k i
  rw [hr, hi, Bool.true_and] at c1
  have hi' := be_iff.1 hi
  have hc := h.c
  have bel := alloc_below w (.cells #[.int .i64 s, .int .i64 a, .int .i64 c, .int .i64 d, .int .i64 g, .int .i64 k] 23)
  have hh := cfg_new w s a c d g k
  go_enter Try.func13, Try.ntmps13
  go_wp2_with (first
    | (go_at_call 33; refine (c1 _).mono ?_; rintro e w1 ⟨rfl, b⟩; replace bel := seq_below bel b; replace hh := hh.below b; obtain ⟨l0, l1, l2, l3, l4, l5⟩ := hh.cells))
  go_ret
  exact ⟨rfl, bel⟩

set_option linter.unusedSimpArgs false in
set_option maxHeartbeats 1000000 in
theorem view_yes {s a c d g k : Int} (i : Int) (hr : rightB s a c d g k = true) (hi : be i c = true) (w : World) : Calls Try.prog 16 #[.agg (cs s a c d g k), .int .i64 i] w fun e w' => e = .returned (.int .i64 (4 + c + c * d + 2 * i)) ∧ Below w.heap.size w w' := by
  have h := rt_of hr
  have c1 := hasClient_any s a c d g k i
  rw [hr, hi, Bool.true_and] at c1
  have hi' := be_iff.1 hi
  have hc := h.c
  have hcd := h.cd
  have f1 := firstView_any s a c d g k hc hcd
  clear h hr hi
  have bel := alloc_below w (.cells #[.int .i64 s, .int .i64 a, .int .i64 c, .int .i64 d, .int .i64 g, .int .i64 k] 23)
  have hh := cfg_new w s a c d g k
  go_enter Try.func16, Try.ntmps16
  go_wp2_with (first
    | (go_at_call 33; refine (c1 _).mono ?_; rintro e w1 ⟨rfl, b⟩; replace bel := seq_below bel b; replace hh := hh.below b; obtain ⟨l0, l1, l2, l3, l4, l5⟩ := hh.cells)
    | (go_at_call 36; refine (f1 _).mono ?_; rintro e w1 ⟨rfl, b⟩; replace bel := seq_below bel b))
  go_ret
  exact ⟨rfl, bel⟩

set_option linter.unusedSimpArgs false in
set_option maxHeartbeats 1000000 in
theorem start_yes {s a c d g k : Int} (i : Int) (hr : rightB s a c d g k = true) (hi : be i c = true) (w : World) : Calls Try.prog 17 #[.agg (cs s a c d g k), .int .i64 i] w fun e w' => e = .returned (.int .i64 (4 + c + c * d + 2 * i + 1)) ∧ Below w.heap.size w w' := by
  have h := rt_of hr
  have c1 := hasClient_any s a c d g k i
  rw [hr, hi, Bool.true_and] at c1
  have hi' := be_iff.1 hi
  have hc := h.c
  have hcd := h.cd
  have f1 := view_yes i hr hi
  clear h hr hi
  have bel := alloc_below w (.cells #[.int .i64 s, .int .i64 a, .int .i64 c, .int .i64 d, .int .i64 g, .int .i64 k] 23)
  have hh := cfg_new w s a c d g k
  go_enter Try.func17, Try.ntmps17
  go_wp2_with (first
    | (go_at_call 33; refine (c1 _).mono ?_; rintro e w1 ⟨rfl, b⟩; replace bel := seq_below bel b; replace hh := hh.below b; obtain ⟨l0, l1, l2, l3, l4, l5⟩ := hh.cells)
    | (go_at_call 16; refine (f1 _).mono ?_; rintro e w1 ⟨rfl, b⟩; replace bel := seq_below bel b))
  go_ret
  exact ⟨rfl, bel⟩

set_option linter.unusedSimpArgs false in
set_option maxHeartbeats 1000000 in
theorem entry_yes {s a c d g k : Int} (i j : Int) (hr : rightB s a c d g k = true) (hi : be i c = true) (hj0 : be j d = true) (w : World) : Calls Try.prog 15 #[.agg (cs s a c d g k), .int .i64 i, .int .i64 j] w fun e w' => e = .returned (.int .i64 (4 + c + i * d + j)) ∧ Below w.heap.size w w' := by
  have h := rt_of hr
  have c1 := hasClient_any s a c d g k i
  rw [hr, hi, Bool.true_and] at c1
  have hi' := be_iff.1 hi
  have hj := be_iff.1 hj0
  have hc := h.c
  have hd := h.d
  have hid : 0 ≤ i * d ∧ i * d ≤ 128 := mul_b (X := 8) (Y := 16) (by omega) (by omega)
  have f1 := firstEntry_any s a c d g k hc
  have c2 := isBelow_any j d
  rw [hj0] at c2
  clear h hr hi hj0
  have bel := alloc_below w (.cells #[.int .i64 s, .int .i64 a, .int .i64 c, .int .i64 d, .int .i64 g, .int .i64 k] 23)
  have hh := cfg_new w s a c d g k
  go_enter Try.func15, Try.ntmps15
  go_upto_region 3 with (first
    | (go_at_call 33; refine (c1 _).mono ?_; rintro e w1 ⟨rfl, b⟩; replace bel := seq_below bel b; replace hh := hh.below b; obtain ⟨l0, l1, l2, l3, l4, l5⟩ := hh.cells)
    | (go_at_call 34; refine (c2 _).mono ?_; rintro e w1 ⟨rfl, rfl⟩))
  have e1 := in_region f1 w1
  have e2 : ∀ w', Below w1.heap.size w1 w' → _ := fun w' hw' => (hh.below hw').cells
  refine region_below (by kernel_rfl) (by kernel_rfl) ?_
  repeat (first | go_big_quiet_skip | (go_big_quiet_want; go_big_quiet_op; first | go_big_quiet_on | (refine ⟨_, fun _ _ => rfl, ?_⟩; go_big_quiet_on) | (refine ⟨_, e1, ?_⟩; go_big_quiet_on) | (refine ⟨.int .i64 d, ?_, ?_⟩; (focus (intro w' hw'; obtain ⟨_, _, _, l, _⟩ := e2 w' hw'; simp [l, Result.andThen]; done)); go_big_quiet_on) | (refine ⟨.agg (cs s a c d g k), ?_, ?_⟩; (focus (intro w' hw'; obtain ⟨l0, l1, l2, l3, l4, l5⟩ := e2 w' hw'; simp [l0, l1, l2, l3, l4, l5, Result.andThen]; done)); go_big_quiet_on)))
  refine wpQuiet_nil ?_
  intro w8 hb8
  replace bel := seq_below bel hb8
  clear e1 e2
  go_wp2
  go_ret
  exact ⟨rfl, bel⟩

set_option linter.unusedSimpArgs false in
set_option maxHeartbeats 1000000 in
theorem header_yes {s a c d g k : Int} (i : Int) (hr : rightB s a c d g k = true) (hi : be i s = true) (w : World) : Calls Try.prog 18 #[.agg (cs s a c d g k), .int .i64 i] w fun e w' => e = .returned (.int .i64 (fsI c d + i * ssI a)) ∧ Below w.heap.size w w' := by
  have h := rt_of hr
  have c1 := hasSlot_any s a c d g k i
  rw [hr, hi, Bool.true_and] at c1
  have hi' := be_iff.1 hi
  have hs := h.s
  have b1 := h.fs
  have b2 := h.ss
  have b3 := h.sm (i := i) (by omega)
  have f1 := firstSlot_r h g k
  have f2 := slotSize_r h g k
  clear h hr hi
  generalize fsI c d = F at *
  generalize ssI a = S at *
  have bel := alloc_below w (.cells #[.int .i64 s, .int .i64 a, .int .i64 c, .int .i64 d, .int .i64 g, .int .i64 k] 23)
  have hh := cfg_new w s a c d g k
  go_enter Try.func18, Try.ntmps18
  go_upto_region 3 with (first
    | (go_at_call 37; refine (c1 _).mono ?_; rintro e w1 ⟨rfl, b⟩; replace bel := seq_below bel b; replace hh := hh.below b; obtain ⟨l0, l1, l2, l3, l4, l5⟩ := hh.cells))
  have e1 := in_region f1 w1
  have e3 := in_region f2 w1
  have e2 : ∀ w', Below w1.heap.size w1 w' → _ := fun w' hw' => (hh.below hw').cells
  refine region_below (by kernel_rfl) (by kernel_rfl) ?_
  repeat (first | go_big_quiet_skip | (go_big_quiet_want; go_big_quiet_op; first | go_big_quiet_on | (refine ⟨_, fun _ _ => rfl, ?_⟩; go_big_quiet_on) | (refine ⟨_, e1, ?_⟩; go_big_quiet_on) | (refine ⟨_, e3, ?_⟩; go_big_quiet_on) | (refine ⟨.agg (cs s a c d g k), ?_, ?_⟩; (focus (intro w' hw'; obtain ⟨l0, l1, l2, l3, l4, l5⟩ := e2 w' hw'; simp [l0, l1, l2, l3, l4, l5, Result.andThen]; done)); go_big_quiet_on)))
  refine wpQuiet_nil ?_
  intro w8 hb8
  replace bel := seq_below bel hb8
  clear e1 e2 e3
  go_wp2
  go_ret
  exact ⟨rfl, bel⟩

set_option linter.unusedSimpArgs false in
set_option maxHeartbeats 1000000 in
theorem link_yes {s a c d g k : Int} (i : Int) (hr : rightB s a c d g k = true) (hi : be i s = true) (w : World) : Calls Try.prog 19 #[.agg (cs s a c d g k), .int .i64 i] w fun e w' => e = .returned (.int .i64 (fsI c d + i * ssI a + 1)) ∧ Below w.heap.size w w' := by
  have h := rt_of hr
  have c1 := hasSlot_any s a c d g k i
  rw [hr, hi, Bool.true_and] at c1
  have hi' := be_iff.1 hi
  have hs := h.s
  have b1 := h.fs
  have b3 := h.sm (i := i) (by omega)
  have f1 := header_yes i hr hi
  clear h hr hi
  generalize fsI c d = F at *
  generalize ssI a = S at *
  generalize i * S = P at *
  have bel := alloc_below w (.cells #[.int .i64 s, .int .i64 a, .int .i64 c, .int .i64 d, .int .i64 g, .int .i64 k] 23)
  have hh := cfg_new w s a c d g k
  go_enter Try.func19, Try.ntmps19
  go_wp2_with (first
    | (go_at_call 37; refine (c1 _).mono ?_; rintro e w1 ⟨rfl, b⟩; replace bel := seq_below bel b; replace hh := hh.below b; obtain ⟨l0, l1, l2, l3, l4, l5⟩ := hh.cells)
    | (go_at_call 18; refine (f1 _).mono ?_; rintro e w1 ⟨rfl, b⟩; replace bel := seq_below bel b))
  go_ret
  exact ⟨rfl, bel⟩

set_option linter.unusedSimpArgs false in
set_option maxHeartbeats 1000000 in
theorem body_yes {s a c d g k : Int} (i j : Int) (hr : rightB s a c d g k = true) (hi : be i s = true) (hj0 : be j (bsI a) = true) (w : World) : Calls Try.prog 20 #[.agg (cs s a c d g k), .int .i64 i, .int .i64 j] w fun e w' => e = .returned (.int .i64 (fsI c d + i * ssI a + 2 + j)) ∧ Below w.heap.size w w' := by
  have h := rt_of hr
  have c1 := hasSlot_any s a c d g k i
  rw [hr, hi, Bool.true_and] at c1
  have hi' := be_iff.1 hi
  have hj := be_iff.1 hj0
  have hs := h.s
  have b1 := h.fs
  have b3 := h.sm (i := i) (by omega)
  have b4 := bsI_b a h.a
  have f1 := header_yes i hr hi
  have f2 := bodySize_any s a c d g k
  have c2 := isBelow_any j (bsI a)
  rw [hj0] at c2
  clear h hr hi hj0
  generalize fsI c d = F at *
  generalize ssI a = S at *
  generalize bsI a = B at *
  generalize i * S = P at *
  have bel := alloc_below w (.cells #[.int .i64 s, .int .i64 a, .int .i64 c, .int .i64 d, .int .i64 g, .int .i64 k] 23)
  have hh := cfg_new w s a c d g k
  go_enter Try.func20, Try.ntmps20
  go_wp2_with (first
    | (go_at_call 37; refine (c1 _).mono ?_; rintro e w1 ⟨rfl, b⟩; replace bel := seq_below bel b; replace hh := hh.below b; obtain ⟨l0, l1, l2, l3, l4, l5⟩ := hh.cells)
    | (go_at_call 18; refine (f1 _).mono ?_; rintro e w1 ⟨rfl, b⟩; replace bel := seq_below bel b)
    | (go_at_call 38; refine (f2 _).mono ?_; rintro e w1 ⟨rfl, b⟩; replace bel := seq_below bel b; replace hh := hh.below b; obtain ⟨l0, l1, l2, l3, l4, l5⟩ := hh.cells)
    | (go_at_call 34; refine (c2 _).mono ?_; rintro e w1 ⟨rfl, rfl⟩))
  go_ret
  exact ⟨rfl, bel⟩

set_option maxHeartbeats 1000000 in
theorem entry_no2 {s a c d g k : Int} (i j : Int) (hr : (rightB s a c d g k && be i c) = true) (hj0 : be j d = false) (w : World) : Calls Try.prog 15 #[.agg (cs s a c d g k), .int .i64 i, .int .i64 j] w fun e w' => e = .returned (.int .i64 (-1)) ∧ Below w.heap.size w w' := by
  have c1 := hasClient_any s a c d g k i
  rw [hr] at c1
  have c2 := isBelow_any j d
  rw [hj0] at c2
  clear hr hj0
  have bel := alloc_below w (.cells #[.int .i64 s, .int .i64 a, .int .i64 c, .int .i64 d, .int .i64 g, .int .i64 k] 23)
  have hh := cfg_new w s a c d g k
  go_enter Try.func15, Try.ntmps15
  go_wp2_with (first
    | (go_at_call 33; refine (c1 _).mono ?_; rintro e w1 ⟨rfl, b⟩; replace bel := seq_below bel b; replace hh := hh.below b; obtain ⟨l0, l1, l2, l3, l4, l5⟩ := hh.cells)
    | (go_at_call 34; refine (c2 _).mono ?_; rintro e w1 ⟨rfl, rfl⟩))
  go_ret
  exact ⟨rfl, bel⟩

set_option maxHeartbeats 1000000 in
theorem body_no2 {s a c d g k : Int} (i j : Int) (hr : (rightB s a c d g k && be i s) = true) (hj0 : be j (bsI a) = false) (w : World) : Calls Try.prog 20 #[.agg (cs s a c d g k), .int .i64 i, .int .i64 j] w fun e w' => e = .returned (.int .i64 (-1)) ∧ Below w.heap.size w w' := by
  have c1 := hasSlot_any s a c d g k i
  rw [hr] at c1
  have c2 := isBelow_any j (bsI a)
  have f2 := bodySize_any s a c d g k
  rw [hj0] at c2
  clear hr hj0
  generalize bsI a = B at *
  have bel := alloc_below w (.cells #[.int .i64 s, .int .i64 a, .int .i64 c, .int .i64 d, .int .i64 g, .int .i64 k] 23)
  have hh := cfg_new w s a c d g k
  go_enter Try.func20, Try.ntmps20
  go_wp2_with (first
    | (go_at_call 37; refine (c1 _).mono ?_; rintro e w1 ⟨rfl, b⟩; replace bel := seq_below bel b; replace hh := hh.below b; obtain ⟨l0, l1, l2, l3, l4, l5⟩ := hh.cells)
    | (go_at_call 38; refine (f2 _).mono ?_; rintro e w1 ⟨rfl, b⟩; replace bel := seq_below bel b; replace hh := hh.below b; obtain ⟨l0, l1, l2, l3, l4, l5⟩ := hh.cells)
    | (go_at_call 34; refine (c2 _).mono ?_; rintro e w1 ⟨rfl, rfl⟩))
  go_ret
  exact ⟨rfl, bel⟩

set_option maxHeartbeats 1000000 in
theorem slot_no {s a c d g k : Int} (x : Int) (hr : rightB s a c d g k = false) (w : World) : Calls Try.prog 21 #[.agg (cs s a c d g k), .int .i64 x] w fun e w' => e = .returned (.int .i64 (-1)) ∧ Below w.heap.size w w' := by
  have c1 := right_any s a c d g k
  rw [hr] at c1
  have bel := alloc_below w (.cells #[.int .i64 s, .int .i64 a, .int .i64 c, .int .i64 d, .int .i64 g, .int .i64 k] 23)
  have hh := cfg_new w s a c d g k
  go_enter Try.func21, Try.ntmps21
  go_wp2_with (go_at_call 10; refine (c1 _).mono ?_; rintro e w1 ⟨rfl, b⟩; replace bel := seq_below bel b; replace hh := hh.below b)
  go_ret
  exact ⟨rfl, bel⟩

set_option maxHeartbeats 1000000 in
theorem slot_no2 {s a c d g k : Int} (x : Int) (hr : rightB s a c d g k = true) (hx : x < fsI c d ∨ szI s a c d ≤ x) (w : World) : Calls Try.prog 21 #[.agg (cs s a c d g k), .int .i64 x] w fun e w' => e = .returned (.int .i64 (-1)) ∧ Below w.heap.size w w' := by
  have h := rt_of hr
  have c1 := right_any s a c d g k
  rw [hr] at c1
  have f1 := firstSlot_r h g k
  have f2 := size_yes hr
  clear h hr
  generalize fsI c d = F at *
  generalize szI s a c d = Z at *
  have bel := alloc_below w (.cells #[.int .i64 s, .int .i64 a, .int .i64 c, .int .i64 d, .int .i64 g, .int .i64 k] 23)
  have hh := cfg_new w s a c d g k
  go_enter Try.func21, Try.ntmps21
  have ARM : True := trivial
  by_cases hx1 : x < F
  · go_wp2_with (first
      | (go_at_call 10; refine (c1 _).mono ?_; rintro e w1 ⟨rfl, b⟩; replace bel := seq_below bel b; replace hh := hh.below b; obtain ⟨l0, l1, l2, l3, l4, l5⟩ := hh.cells)
      | (go_at_call 31; refine (f1 _).mono ?_; rintro e w1 ⟨rfl, b⟩; replace bel := seq_below bel b; replace hh := hh.below b; obtain ⟨l0, l1, l2, l3, l4, l5⟩ := hh.cells))
    go_ret
    exact ⟨rfl, bel⟩
  · have hx2 : Z ≤ x := by omega
    clear hx
    go_wp2_with (first
      | (go_at_call 10; refine (c1 _).mono ?_; rintro e w1 ⟨rfl, b⟩; replace bel := seq_below bel b; replace hh := hh.below b; obtain ⟨l0, l1, l2, l3, l4, l5⟩ := hh.cells)
      | (go_at_call 31; refine (f1 _).mono ?_; rintro e w1 ⟨rfl, b⟩; replace bel := seq_below bel b; replace hh := hh.below b; obtain ⟨l0, l1, l2, l3, l4, l5⟩ := hh.cells)
      | (go_at_call 11; refine (f2 _).mono ?_; rintro e w1 ⟨rfl, b⟩; replace bel := seq_below bel b; replace hh := hh.below b; obtain ⟨l0, l1, l2, l3, l4, l5⟩ := hh.cells))
    go_ret
    exact ⟨rfl, bel⟩

set_option linter.unusedSimpArgs false in
set_option maxHeartbeats 1000000 in
theorem slot_yes {s a c d g k : Int} (x : Int) (hr : rightB s a c d g k = true) (hx : fsI c d ≤ x ∧ x < szI s a c d) (w : World) : Calls Try.prog 21 #[.agg (cs s a c d g k), .int .i64 x] w fun e w' => e = .returned (.int .i64 ((x - fsI c d) / ssI a)) ∧ Below w.heap.size w w' := by
  have h := rt_of hr
  have c1 := right_any s a c d g k
  rw [hr] at c1
  have f1 := firstSlot_r h g k
  have f2 := size_yes hr
  have f3 := slotSize_r h g k
  have b1 := h.fs
  have b2 := h.ss
  have b3 : szI s a c d ≤ 796 := by have := h.sm (i := s) (by have := h.s; omega); unfold szI; omega
  clear h hr
  generalize fsI c d = F at *
  generalize szI s a c d = Z at *
  generalize ssI a = S at *
  have hq : 0 ≤ (x - F) / S ∧ (x - F) / S ≤ 796 := ⟨Int.ediv_nonneg (by omega) (by omega), Int.le_trans (Int.ediv_le_self _ (by omega)) (by omega)⟩
  have bel := alloc_below w (.cells #[.int .i64 s, .int .i64 a, .int .i64 c, .int .i64 d, .int .i64 g, .int .i64 k] 23)
  have hh := cfg_new w s a c d g k
  go_enter Try.func21, Try.ntmps21
  go_upto_region 3 with (first
    | (go_at_call 10; refine (c1 _).mono ?_; rintro e w1 ⟨rfl, b⟩; replace bel := seq_below bel b; replace hh := hh.below b; obtain ⟨l0, l1, l2, l3, l4, l5⟩ := hh.cells)
    | (go_at_call 31; refine (f1 _).mono ?_; rintro e w2 ⟨rfl, b⟩; replace bel := seq_below bel b; replace hh := hh.below b; obtain ⟨l0, l1, l2, l3, l4, l5⟩ := hh.cells)
    | (go_at_call 11; refine (f2 _).mono ?_; rintro e w3 ⟨rfl, b⟩; replace bel := seq_below bel b; replace hh := hh.below b; obtain ⟨l0, l1, l2, l3, l4, l5⟩ := hh.cells))
  have e1 := in_region f1 w3
  have e3 := in_region f3 w3
  have e2 : ∀ w', Below w3.heap.size w3 w' → _ := fun w' hw' => (hh.below hw').cells
  refine region_below (by kernel_rfl) (by kernel_rfl) ?_
  repeat (first | go_big_quiet_skip | (go_big_quiet_want; go_big_quiet_op; first | go_big_quiet_on | (refine ⟨_, fun _ _ => rfl, ?_⟩; go_big_quiet_on) | (refine ⟨_, e1, ?_⟩; go_big_quiet_on) | (refine ⟨_, e3, ?_⟩; go_big_quiet_on) | (refine ⟨.agg (cs s a c d g k), ?_, ?_⟩; (focus (intro w' hw'; obtain ⟨l0, l1, l2, l3, l4, l5⟩ := e2 w' hw'; simp [l0, l1, l2, l3, l4, l5, Result.andThen]; done)); go_big_quiet_on)))
  refine wpQuiet_nil ?_
  intro w8 hb8
  replace bel := seq_below bel hb8
  clear e1 e2 e3
  go_wp2
  go_ret
  exact ⟨rfl, bel⟩
end Go.Proofs.Ytcpbfbdmfkhaeab
