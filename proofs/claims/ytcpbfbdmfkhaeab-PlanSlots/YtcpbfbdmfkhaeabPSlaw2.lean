/- The law of the slots, walked: by the kind of the word at the place. -/
import Derived.Test.YtcpbfbdmfkhaeabPPlaw
namespace Go.Proofs.Ytcpbfbdmfkhaeab
open Go.RowKit

set_option linter.unusedSimpArgs false in
set_option maxHeartbeats 4000000 in
theorem slots_as_6 (s a c d g k x y p1 p2 p3 : Int) (N Z X : Nat) (hz : Z < N)
    (c1 : ∀ w, Calls Try.prog 18 #[.agg (cs s a c d g k), .int .i64 x] w fun e w' => e = .returned (.int .i64 p1) ∧ Below w.heap.size w w')
    (a1 : ∀ w, Calls Try.prog 14 #[.agg (cs s a c d g k), .agg #[.string ⟨#[104, 101, 97, 100, 101, 114]⟩, .int .i64 x, .int .i64 0]] w fun e w' => e = .returned (.int .i64 p1) ∧ Below w.heap.size w w')
    (c2 : ∀ w, Calls Try.prog 19 #[.agg (cs s a c d g k), .int .i64 x] w fun e w' => e = .returned (.int .i64 p2) ∧ Below w.heap.size w w')
    (a2 : ∀ w, Calls Try.prog 14 #[.agg (cs s a c d g k), .agg #[.string ⟨#[108, 105, 110, 107]⟩, .int .i64 x, .int .i64 0]] w fun e w' => e = .returned (.int .i64 p2) ∧ Below w.heap.size w w')
    (c3 : ∀ w, Calls Try.prog 20 #[.agg (cs s a c d g k), .int .i64 x, .int .i64 y] w fun e w' => e = .returned (.int .i64 p3) ∧ Below w.heap.size w w')
    (a3 : ∀ w, Calls Try.prog 14 #[.agg (cs s a c d g k), .agg #[.string ⟨#[98, 111, 100, 121]⟩, .int .i64 x, .int .i64 y]] w fun e w' => e = .returned (.int .i64 p3) ∧ Below w.heap.size w w')
    (c4 : ∀ w, Calls Try.prog 21 #[.agg (cs s a c d g k), .int .i64 (Z : Nat)] w fun e w' => e = .returned (.int .i64 (-1 : Int)) ∧ Below w.heap.size w w')
    (r1 : ∀ w, Calls Try.prog 8 #[.agg (cs s a c d g k)] w fun e w' => e = .returned (.bool true) ∧ Below w.heap.size w w')
    (r2 : ∀ w, Calls Try.prog 9 #[.agg (cs s a c d g k)] w fun e w' => ∃ R cap, e = .returned (.slice (some ⟨R, 0, none⟩) N cap) ∧ (w'.cell? ⟨R, Z * 3, none⟩ = some (.string ⟨#[118, 105, 101, 119]⟩) ∧ w'.cell? ⟨R, Z * 3 + 1, none⟩ = some (.int .i64 (X : Nat))) ∧ Below w.heap.size w w') (w : World) : Calls Try.prog 5 #[.agg (cs s a c d g k), .int .i64 x, .int .i64 y, .int .i64 (Z : Nat)] w fun e w' => e = .returned (.bool true) ∧ Below w.heap.size w w' := by
  have c5 := awake_any
  have bel := alloc_below w (.cells #[.int .i64 s, .int .i64 a, .int .i64 c, .int .i64 d, .int .i64 g, .int .i64 k] 23)
  have hh := cfg_new w s a c d g k
  go_enter Try.func5, Try.ntmps5
  go_upto_region 1 with fail
  generalize w.alloc (.cells #[.int .i64 s, .int .i64 a, .int .i64 c, .int .i64 d, .int .i64 g, .int .i64 k] 23) = w0 at *
  obtain ⟨l0, l1, l2, l3, l4, l5⟩ := hh.cells
  go_upto_region 6 with (first
    | (go_at_call 8; refine (r1 _).mono ?_; rintro e w1 ⟨rfl, b⟩; replace bel := seq_below bel b; replace hh := hh.below b; obtain ⟨l0, l1, l2, l3, l4, l5⟩ := hh.cells)
    | (go_at_call 9; refine (r2 _).mono ?_; rintro e w2 ⟨R, cap, rfl, ⟨t0, t1⟩, b⟩; replace bel := seq_below bel b; replace hh := hh.below b; obtain ⟨l0, l1, l2, l3, l4, l5⟩ := hh.cells))
  clear l0 l1 l2 l3 l4 l5
  have ec1 := in_region c1 w2
  have ea1 := in_region a1 w2
  have ec2 := in_region c2 w2
  have ea2 := in_region a2 w2
  have ec3 := in_region c3 w2
  have ea3 := in_region a3 w2
  have ec4 := in_region c4 w2
  have ec5 := in_region c5 w2
  have e2 : ∀ w', Below w2.heap.size w2 w' → _ := fun w' hw' => (hh.below hw').cells
  refine region_below (by kernel_rfl) (by kernel_rfl) ?_
  repeat (first | go_big_quiet_skip | (go_big_quiet_want; go_big_quiet_op; first | go_big_quiet_on | (refine ⟨_, fun _ _ => rfl, ?_⟩; go_big_quiet_on) | (with_reducible refine ⟨_, ec1, ?_⟩; go_big_quiet_on) | (with_reducible refine ⟨_, ea1, ?_⟩; go_big_quiet_on) | (with_reducible refine ⟨_, ec2, ?_⟩; go_big_quiet_on) | (with_reducible refine ⟨_, ea2, ?_⟩; go_big_quiet_on) | (with_reducible refine ⟨_, ec3, ?_⟩; go_big_quiet_on) | (with_reducible refine ⟨_, ea3, ?_⟩; go_big_quiet_on) | (with_reducible refine ⟨_, ec4, ?_⟩; go_big_quiet_on) | (with_reducible refine ⟨_, ec5, ?_⟩; go_big_quiet_on) | (refine ⟨.agg (cs s a c d g k), ?_, ?_⟩; (focus (intro w' hw'; obtain ⟨l0, l1, l2, l3, l4, l5⟩ := e2 w' hw'; simp [l0, l1, l2, l3, l4, l5, Result.andThen]; done)); go_big_quiet_on)))
  refine wpQuiet_nil ?_
  intro w8 hb8
  replace bel := seq_below bel hb8
  clear e2 ec1 ea1 ec2 ea2 ec3 ea3 ec4 ec5
  go_wp2
  go_ret
  exact ⟨rfl, bel⟩

set_option linter.unusedSimpArgs false in
set_option maxHeartbeats 4000000 in
theorem slots_as_7 (s a c d g k x y p1 p2 p3 : Int) (N Z X : Nat) (hz : Z < N)
    (c1 : ∀ w, Calls Try.prog 18 #[.agg (cs s a c d g k), .int .i64 x] w fun e w' => e = .returned (.int .i64 p1) ∧ Below w.heap.size w w')
    (a1 : ∀ w, Calls Try.prog 14 #[.agg (cs s a c d g k), .agg #[.string ⟨#[104, 101, 97, 100, 101, 114]⟩, .int .i64 x, .int .i64 0]] w fun e w' => e = .returned (.int .i64 p1) ∧ Below w.heap.size w w')
    (c2 : ∀ w, Calls Try.prog 19 #[.agg (cs s a c d g k), .int .i64 x] w fun e w' => e = .returned (.int .i64 p2) ∧ Below w.heap.size w w')
    (a2 : ∀ w, Calls Try.prog 14 #[.agg (cs s a c d g k), .agg #[.string ⟨#[108, 105, 110, 107]⟩, .int .i64 x, .int .i64 0]] w fun e w' => e = .returned (.int .i64 p2) ∧ Below w.heap.size w w')
    (c3 : ∀ w, Calls Try.prog 20 #[.agg (cs s a c d g k), .int .i64 x, .int .i64 y] w fun e w' => e = .returned (.int .i64 p3) ∧ Below w.heap.size w w')
    (a3 : ∀ w, Calls Try.prog 14 #[.agg (cs s a c d g k), .agg #[.string ⟨#[98, 111, 100, 121]⟩, .int .i64 x, .int .i64 y]] w fun e w' => e = .returned (.int .i64 p3) ∧ Below w.heap.size w w')
    (c4 : ∀ w, Calls Try.prog 21 #[.agg (cs s a c d g k), .int .i64 (Z : Nat)] w fun e w' => e = .returned (.int .i64 (-1 : Int)) ∧ Below w.heap.size w w')
    (r1 : ∀ w, Calls Try.prog 8 #[.agg (cs s a c d g k)] w fun e w' => e = .returned (.bool true) ∧ Below w.heap.size w w')
    (r2 : ∀ w, Calls Try.prog 9 #[.agg (cs s a c d g k)] w fun e w' => ∃ R cap, e = .returned (.slice (some ⟨R, 0, none⟩) N cap) ∧ (w'.cell? ⟨R, Z * 3, none⟩ = some (.string ⟨#[115, 116, 97, 114, 116]⟩) ∧ w'.cell? ⟨R, Z * 3 + 1, none⟩ = some (.int .i64 (X : Nat))) ∧ Below w.heap.size w w') (w : World) : Calls Try.prog 5 #[.agg (cs s a c d g k), .int .i64 x, .int .i64 y, .int .i64 (Z : Nat)] w fun e w' => e = .returned (.bool true) ∧ Below w.heap.size w w' := by
  have c5 := awake_any
  have bel := alloc_below w (.cells #[.int .i64 s, .int .i64 a, .int .i64 c, .int .i64 d, .int .i64 g, .int .i64 k] 23)
  have hh := cfg_new w s a c d g k
  go_enter Try.func5, Try.ntmps5
  go_upto_region 1 with fail
  generalize w.alloc (.cells #[.int .i64 s, .int .i64 a, .int .i64 c, .int .i64 d, .int .i64 g, .int .i64 k] 23) = w0 at *
  obtain ⟨l0, l1, l2, l3, l4, l5⟩ := hh.cells
  go_upto_region 6 with (first
    | (go_at_call 8; refine (r1 _).mono ?_; rintro e w1 ⟨rfl, b⟩; replace bel := seq_below bel b; replace hh := hh.below b; obtain ⟨l0, l1, l2, l3, l4, l5⟩ := hh.cells)
    | (go_at_call 9; refine (r2 _).mono ?_; rintro e w2 ⟨R, cap, rfl, ⟨t0, t1⟩, b⟩; replace bel := seq_below bel b; replace hh := hh.below b; obtain ⟨l0, l1, l2, l3, l4, l5⟩ := hh.cells))
  clear l0 l1 l2 l3 l4 l5
  have ec1 := in_region c1 w2
  have ea1 := in_region a1 w2
  have ec2 := in_region c2 w2
  have ea2 := in_region a2 w2
  have ec3 := in_region c3 w2
  have ea3 := in_region a3 w2
  have ec4 := in_region c4 w2
  have ec5 := in_region c5 w2
  have e2 : ∀ w', Below w2.heap.size w2 w' → _ := fun w' hw' => (hh.below hw').cells
  refine region_below (by kernel_rfl) (by kernel_rfl) ?_
  repeat (first | go_big_quiet_skip | (go_big_quiet_want; go_big_quiet_op; first | go_big_quiet_on | (refine ⟨_, fun _ _ => rfl, ?_⟩; go_big_quiet_on) | (with_reducible refine ⟨_, ec1, ?_⟩; go_big_quiet_on) | (with_reducible refine ⟨_, ea1, ?_⟩; go_big_quiet_on) | (with_reducible refine ⟨_, ec2, ?_⟩; go_big_quiet_on) | (with_reducible refine ⟨_, ea2, ?_⟩; go_big_quiet_on) | (with_reducible refine ⟨_, ec3, ?_⟩; go_big_quiet_on) | (with_reducible refine ⟨_, ea3, ?_⟩; go_big_quiet_on) | (with_reducible refine ⟨_, ec4, ?_⟩; go_big_quiet_on) | (with_reducible refine ⟨_, ec5, ?_⟩; go_big_quiet_on) | (refine ⟨.agg (cs s a c d g k), ?_, ?_⟩; (focus (intro w' hw'; obtain ⟨l0, l1, l2, l3, l4, l5⟩ := e2 w' hw'; simp [l0, l1, l2, l3, l4, l5, Result.andThen]; done)); go_big_quiet_on)))
  refine wpQuiet_nil ?_
  intro w8 hb8
  replace bel := seq_below bel hb8
  clear e2 ec1 ea1 ec2 ea2 ec3 ea3 ec4 ec5
  go_wp2
  go_ret
  exact ⟨rfl, bel⟩

set_option linter.unusedSimpArgs false in
set_option maxHeartbeats 4000000 in
theorem slots_as_8 (s a c d g k x y p1 p2 p3 : Int) (N Z X : Nat) (hz : Z < N)
    (c1 : ∀ w, Calls Try.prog 18 #[.agg (cs s a c d g k), .int .i64 x] w fun e w' => e = .returned (.int .i64 p1) ∧ Below w.heap.size w w')
    (a1 : ∀ w, Calls Try.prog 14 #[.agg (cs s a c d g k), .agg #[.string ⟨#[104, 101, 97, 100, 101, 114]⟩, .int .i64 x, .int .i64 0]] w fun e w' => e = .returned (.int .i64 p1) ∧ Below w.heap.size w w')
    (c2 : ∀ w, Calls Try.prog 19 #[.agg (cs s a c d g k), .int .i64 x] w fun e w' => e = .returned (.int .i64 p2) ∧ Below w.heap.size w w')
    (a2 : ∀ w, Calls Try.prog 14 #[.agg (cs s a c d g k), .agg #[.string ⟨#[108, 105, 110, 107]⟩, .int .i64 x, .int .i64 0]] w fun e w' => e = .returned (.int .i64 p2) ∧ Below w.heap.size w w')
    (c3 : ∀ w, Calls Try.prog 20 #[.agg (cs s a c d g k), .int .i64 x, .int .i64 y] w fun e w' => e = .returned (.int .i64 p3) ∧ Below w.heap.size w w')
    (a3 : ∀ w, Calls Try.prog 14 #[.agg (cs s a c d g k), .agg #[.string ⟨#[98, 111, 100, 121]⟩, .int .i64 x, .int .i64 y]] w fun e w' => e = .returned (.int .i64 p3) ∧ Below w.heap.size w w')
    (c4 : ∀ w, Calls Try.prog 21 #[.agg (cs s a c d g k), .int .i64 (Z : Nat)] w fun e w' => e = .returned (.int .i64 ((X : Nat) : Int)) ∧ Below w.heap.size w w')
    (r1 : ∀ w, Calls Try.prog 8 #[.agg (cs s a c d g k)] w fun e w' => e = .returned (.bool true) ∧ Below w.heap.size w w')
    (r2 : ∀ w, Calls Try.prog 9 #[.agg (cs s a c d g k)] w fun e w' => ∃ R cap, e = .returned (.slice (some ⟨R, 0, none⟩) N cap) ∧ (w'.cell? ⟨R, Z * 3, none⟩ = some (.string ⟨#[104, 101, 97, 100, 101, 114]⟩) ∧ w'.cell? ⟨R, Z * 3 + 1, none⟩ = some (.int .i64 (X : Nat))) ∧ Below w.heap.size w w') (w : World) : Calls Try.prog 5 #[.agg (cs s a c d g k), .int .i64 x, .int .i64 y, .int .i64 (Z : Nat)] w fun e w' => e = .returned (.bool true) ∧ Below w.heap.size w w' := by
  have c5 := awake_any
  have bel := alloc_below w (.cells #[.int .i64 s, .int .i64 a, .int .i64 c, .int .i64 d, .int .i64 g, .int .i64 k] 23)
  have hh := cfg_new w s a c d g k
  go_enter Try.func5, Try.ntmps5
  go_upto_region 1 with fail
  generalize w.alloc (.cells #[.int .i64 s, .int .i64 a, .int .i64 c, .int .i64 d, .int .i64 g, .int .i64 k] 23) = w0 at *
  obtain ⟨l0, l1, l2, l3, l4, l5⟩ := hh.cells
  go_upto_region 6 with (first
    | (go_at_call 8; refine (r1 _).mono ?_; rintro e w1 ⟨rfl, b⟩; replace bel := seq_below bel b; replace hh := hh.below b; obtain ⟨l0, l1, l2, l3, l4, l5⟩ := hh.cells)
    | (go_at_call 9; refine (r2 _).mono ?_; rintro e w2 ⟨R, cap, rfl, ⟨t0, t1⟩, b⟩; replace bel := seq_below bel b; replace hh := hh.below b; obtain ⟨l0, l1, l2, l3, l4, l5⟩ := hh.cells))
  clear l0 l1 l2 l3 l4 l5
  have ec1 := in_region c1 w2
  have ea1 := in_region a1 w2
  have ec2 := in_region c2 w2
  have ea2 := in_region a2 w2
  have ec3 := in_region c3 w2
  have ea3 := in_region a3 w2
  have ec4 := in_region c4 w2
  have ec5 := in_region c5 w2
  have e2 : ∀ w', Below w2.heap.size w2 w' → _ := fun w' hw' => (hh.below hw').cells
  refine region_below (by kernel_rfl) (by kernel_rfl) ?_
  repeat (first | go_big_quiet_skip | (go_big_quiet_want; go_big_quiet_op; first | go_big_quiet_on | (refine ⟨_, fun _ _ => rfl, ?_⟩; go_big_quiet_on) | (with_reducible refine ⟨_, ec1, ?_⟩; go_big_quiet_on) | (with_reducible refine ⟨_, ea1, ?_⟩; go_big_quiet_on) | (with_reducible refine ⟨_, ec2, ?_⟩; go_big_quiet_on) | (with_reducible refine ⟨_, ea2, ?_⟩; go_big_quiet_on) | (with_reducible refine ⟨_, ec3, ?_⟩; go_big_quiet_on) | (with_reducible refine ⟨_, ea3, ?_⟩; go_big_quiet_on) | (with_reducible refine ⟨_, ec4, ?_⟩; go_big_quiet_on) | (with_reducible refine ⟨_, ec5, ?_⟩; go_big_quiet_on) | (refine ⟨.agg (cs s a c d g k), ?_, ?_⟩; (focus (intro w' hw'; obtain ⟨l0, l1, l2, l3, l4, l5⟩ := e2 w' hw'; simp [l0, l1, l2, l3, l4, l5, Result.andThen]; done)); go_big_quiet_on)))
  refine wpQuiet_nil ?_
  intro w8 hb8
  replace bel := seq_below bel hb8
  clear e2 ec1 ea1 ec2 ea2 ec3 ea3 ec4 ec5
  go_wp2
  go_ret
  exact ⟨rfl, bel⟩

end Go.Proofs.Ytcpbfbdmfkhaeab
