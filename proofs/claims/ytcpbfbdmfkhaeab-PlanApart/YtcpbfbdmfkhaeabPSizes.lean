/- 'awake', and the law of sizes, walked. -/
import Derived.Test.YtcpbfbdmfkhaeabPWords
namespace Go.Proofs.Ytcpbfbdmfkhaeab
open Go.RowKit

theorem ex_size (w : World) : Calls Try.prog 11 #[.agg (cs 2 4 1 2 1 0)] w fun e w' => e = .returned (.int .i64 21) ∧ Below w.heap.size w w' := by
  have h := size_yes (s := 2) (a := 4) (c := 1) (d := 2) (g := 1) (k := 0) (by decide) w
  rw [show szI 2 4 1 2 = 21 by decide] at h; exact h
theorem ex_pin (w : World) : Calls Try.prog 13 #[.agg (cs 2 4 1 2 1 0), .int .i64 0] w fun e w' => e = .returned (.int .i64 4) ∧ Below w.heap.size w w' :=
  pin_yes (s := 2) (a := 4) (c := 1) (d := 2) (g := 1) (k := 0) 0 (by decide) (by decide) w
theorem ex_view (w : World) : Calls Try.prog 16 #[.agg (cs 2 4 1 2 1 0), .int .i64 0] w fun e w' => e = .returned (.int .i64 7) ∧ Below w.heap.size w w' :=
  view_yes (s := 2) (a := 4) (c := 1) (d := 2) (g := 1) (k := 0) 0 (by decide) (by decide) w
theorem ex_header (w : World) : Calls Try.prog 18 #[.agg (cs 2 4 1 2 1 0), .int .i64 1] w fun e w' => e = .returned (.int .i64 15) ∧ Below w.heap.size w w' := by
  have h := header_yes (s := 2) (a := 4) (c := 1) (d := 2) (g := 1) (k := 0) 1 (by decide) (by decide) w
  rw [show fsI 1 2 + 1 * ssI 4 = 15 by decide] at h; exact h
theorem ex_slot (w : World) : Calls Try.prog 21 #[.agg (cs 2 4 1 2 1 0), .int .i64 20] w fun e w' => e = .returned (.int .i64 1) ∧ Below w.heap.size w w' := by
  have h := slot_yes (s := 2) (a := 4) (c := 1) (d := 2) (g := 1) (k := 0) 20 (by decide) (by decide) w
  rw [show (20 - fsI 1 2) / ssI 4 = 1 by decide] at h; exact h

set_option maxHeartbeats 2000000 in
theorem awake_any (w : World) : Calls Try.prog 12 #[] w fun e w' => e = .returned (.bool true) ∧ Below w.heap.size w w' := by
  have c1 := ex_size
  have c2 := ex_pin
  have c3 := ex_view
  have c4 := ex_header
  have c5 := ex_slot
  go_enter Try.func12, Try.ntmps12
  go_upto_region 2 with fail
  have bel := alloc_below w (.cells #[.int .i64 2, .int .i64 4, .int .i64 1, .int .i64 2, .int .i64 1, .int .i64 0] 23)
  have hh := cfg_new w 2 4 1 2 1 0
  generalize w.alloc (.cells #[.int .i64 2, .int .i64 4, .int .i64 1, .int .i64 2, .int .i64 1, .int .i64 0] 23) = w0 at *
  obtain ⟨l0, l1, l2, l3, l4, l5⟩ := hh.cells
  go_wp2_with (first
    | (go_at_call 11; refine (c1 _).mono ?_; rintro e w1 ⟨rfl, b⟩; replace bel := seq_below bel b; replace hh := hh.below b; obtain ⟨l0, l1, l2, l3, l4, l5⟩ := hh.cells)
    | (go_at_call 13; refine (c2 _).mono ?_; rintro e w1 ⟨rfl, b⟩; replace bel := seq_below bel b; replace hh := hh.below b; obtain ⟨l0, l1, l2, l3, l4, l5⟩ := hh.cells)
    | (go_at_call 16; refine (c3 _).mono ?_; rintro e w1 ⟨rfl, b⟩; replace bel := seq_below bel b; replace hh := hh.below b; obtain ⟨l0, l1, l2, l3, l4, l5⟩ := hh.cells)
    | (go_at_call 18; refine (c4 _).mono ?_; rintro e w1 ⟨rfl, b⟩; replace bel := seq_below bel b; replace hh := hh.below b; obtain ⟨l0, l1, l2, l3, l4, l5⟩ := hh.cells)
    | (go_at_call 21; refine (c5 _).mono ?_; rintro e w1 ⟨rfl, b⟩; replace bel := seq_below bel b; replace hh := hh.below b; obtain ⟨l0, l1, l2, l3, l4, l5⟩ := hh.cells))
  go_ret
  exact ⟨rfl, bel⟩

set_option linter.unusedSimpArgs false in
set_option maxHeartbeats 2000000 in
theorem sizes_no {s a c d g k : Int} (hr : rightB s a c d g k = false) (w : World) : Calls Try.prog 3 #[.agg (cs s a c d g k)] w fun e w' => e = .returned (.bool true) ∧ Below w.heap.size w w' := by
  have c1 := rright_any s a c d g k
  rw [hr] at c1
  have c2 := right_any s a c d g k
  rw [hr] at c2
  have c3 := size_no hr
  have c4 := awake_any
  clear hr
  have bel := alloc_below w (.cells #[.int .i64 s, .int .i64 a, .int .i64 c, .int .i64 d, .int .i64 g, .int .i64 k] 23)
  have hh := cfg_new w s a c d g k
  go_enter Try.func3, Try.ntmps3
  go_upto_region 1 with fail
  generalize w.alloc (.cells #[.int .i64 s, .int .i64 a, .int .i64 c, .int .i64 d, .int .i64 g, .int .i64 k] 23) = w0 at *
  obtain ⟨l0, l1, l2, l3, l4, l5⟩ := hh.cells
  go_upto_region 4 with (first
    | (go_at_call 8; refine (c1 _).mono ?_; rintro e w1 ⟨rfl, b⟩; replace bel := seq_below bel b; replace hh := hh.below b))
  clear l0 l1 l2 l3 l4 l5
  have e1 := in_region c1 w1
  have e3 := in_region c2 w1
  have e4 := in_region c3 w1
  have e5 := in_region c4 w1
  have e2 : ∀ w', Below w1.heap.size w1 w' → _ := fun w' hw' => (hh.below hw').cells
  refine region_below (by kernel_rfl) (by kernel_rfl) ?_
  repeat (first | go_big_quiet_skip | (go_big_quiet_want; go_big_quiet_op; first | go_big_quiet_on | (refine ⟨_, fun _ _ => rfl, ?_⟩; go_big_quiet_on) | (refine ⟨_, e1, ?_⟩; go_big_quiet_on) | (refine ⟨_, e3, ?_⟩; go_big_quiet_on) | (refine ⟨_, e4, ?_⟩; go_big_quiet_on) | (refine ⟨_, e5, ?_⟩; go_big_quiet_on) | (refine ⟨.agg (cs s a c d g k), ?_, ?_⟩; (focus (intro w' hw'; obtain ⟨l0, l1, l2, l3, l4, l5⟩ := e2 w' hw'; simp [l0, l1, l2, l3, l4, l5, Result.andThen]; done)); go_big_quiet_on)))
  refine wpQuiet_nil ?_
  intro w8 hb8
  replace bel := seq_below bel hb8
  clear e1 e2 e3 e4 e5
  go_wp2
  go_ret
  exact ⟨rfl, bel⟩

theorem szI_nat (C D S B : Nat) (a : Int) (hB : bsI a = (B : Int)) : szI S a C D = ((nW C D B S : Nat) : Int) := by
  unfold szI fsI ssI nW
  rw [hB]
  push_cast
  omega

set_option linter.unusedSimpArgs false in
set_option maxHeartbeats 2000000 in
theorem sizes_yes {C D S B : Nat} {a g k : Int} (hr : rightB S a C D g k = true) (hB : bsI a = (B : Int)) (hB8 : B ≤ 8) (w : World) : Calls Try.prog 3 #[.agg (cs S a C D g k)] w fun e w' => e = .returned (.bool true) ∧ Below w.heap.size w w' := by
  have hR := rightB_iff.1 hr
  have c1 := rright_any S a C D g k
  rw [hr] at c1
  have c2 := right_any S a C D g k
  rw [hr] at c2
  have c3 := size_yes hr
  rw [szI_nat C D S B a hB] at c3
  have c4 := awake_any
  have c5 := words_r C D S B a g k (by omega) (by omega) (by omega) hB hB8
  clear hr hR
  generalize nW C D B S = N at *
  generalize (S : Int) = s at *
  generalize (C : Int) = c at *
  generalize (D : Int) = d at *
  have bel := alloc_below w (.cells #[.int .i64 s, .int .i64 a, .int .i64 c, .int .i64 d, .int .i64 g, .int .i64 k] 23)
  have hh := cfg_new w s a c d g k
  go_enter Try.func3, Try.ntmps3
  go_upto_region 1 with fail
  generalize w.alloc (.cells #[.int .i64 s, .int .i64 a, .int .i64 c, .int .i64 d, .int .i64 g, .int .i64 k] 23) = w0 at *
  obtain ⟨l0, l1, l2, l3, l4, l5⟩ := hh.cells
  go_upto_region 4 with (first
    | (go_at_call 8; refine (c1 _).mono ?_; rintro e w1 ⟨rfl, b⟩; replace bel := seq_below bel b; replace hh := hh.below b; obtain ⟨l0, l1, l2, l3, l4, l5⟩ := hh.cells)
    | (go_at_call 9; refine (c5 _).mono ?_; rintro e w2 ⟨R, cap, rfl, _, _, b⟩; replace bel := seq_below bel b; replace hh := hh.below b; obtain ⟨l0, l1, l2, l3, l4, l5⟩ := hh.cells))
  clear l0 l1 l2 l3 l4 l5
  have e1 := in_region c1 w2
  have e3 := in_region c2 w2
  have e4 := in_region c3 w2
  have e5 := in_region c4 w2
  have e2 : ∀ w', Below w2.heap.size w2 w' → _ := fun w' hw' => (hh.below hw').cells
  refine region_below (by kernel_rfl) (by kernel_rfl) ?_
  repeat (first | go_big_quiet_skip | (go_big_quiet_want; go_big_quiet_op; first | go_big_quiet_on | (refine ⟨_, fun _ _ => rfl, ?_⟩; go_big_quiet_on) | (refine ⟨_, e1, ?_⟩; go_big_quiet_on) | (refine ⟨_, e3, ?_⟩; go_big_quiet_on) | (refine ⟨_, e4, ?_⟩; go_big_quiet_on) | (refine ⟨_, e5, ?_⟩; go_big_quiet_on) | (refine ⟨.agg (cs s a c d g k), ?_, ?_⟩; (focus (intro w' hw'; obtain ⟨l0, l1, l2, l3, l4, l5⟩ := e2 w' hw'; simp [l0, l1, l2, l3, l4, l5, Result.andThen]; done)); go_big_quiet_on)))
  refine wpQuiet_nil ?_
  intro w8 hb8
  replace bel := seq_below bel hb8
  clear e1 e2 e3 e4 e5
  go_wp2
  go_ret
  exact ⟨rfl, bel⟩

theorem nat_cfg {s a c d g k : Int} (hr : rightB s a c d g k = true) : ∃ C D S B : Nat, s = (S : Int) ∧ c = (C : Int) ∧ d = (D : Int) ∧ bsI a = (B : Int) ∧ B ≤ 8 ∧ 3 ≤ B ∧ 1 ≤ D ∧ 1 ≤ C ∧ 1 ≤ S ∧ C ≤ 8 ∧ D ≤ 16 ∧ S ≤ 64 := by
  have h := rightB_iff.1 hr
  have hb := bsI_b a h.2.1
  exact ⟨c.toNat, d.toNat, s.toNat, (bsI a).toNat, by omega, by omega, by omega, by omega, by omega, by omega, by omega, by omega, by omega, by omega, by omega, by omega⟩

theorem sizes_law (s a c d g k : Int) (w : World) : Calls Try.prog 3 #[.agg (cs s a c d g k)] w fun e w' => e = .returned (.bool true) ∧ Below w.heap.size w w' := by
  cases hr : rightB s a c d g k
  · exact sizes_no hr w
  · obtain ⟨C, D, S, B, rfl, rfl, rfl, hB, hB8, _⟩ := nat_cfg hr
    exact sizes_yes hr hB hB8 w
end Go.Proofs.Ytcpbfbdmfkhaeab
