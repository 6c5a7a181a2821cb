/- The law of the clients' places, walked. -/
import Derived.Test.YtcpbfbdmfkhaeabPAt
import Derived.Test.YtcpbfbdmfkhaeabPSizes
namespace Go.Proofs.Ytcpbfbdmfkhaeab
open Go.RowKit

set_option linter.unusedSimpArgs false in
set_option maxHeartbeats 4000000 in
theorem places_as (s a c d g k x y p1 p2 p3 p4 : Int)
    (c1 : ∀ w, Calls Try.prog 13 #[.agg (cs s a c d g k), .int .i64 x] w fun e w' => e = .returned (.int .i64 p1) ∧ Below w.heap.size w w')
    (a1 : ∀ w, Calls Try.prog 14 #[.agg (cs s a c d g k), .agg #[.string ⟨#[112, 105, 110]⟩, .int .i64 x, .int .i64 0]] w fun e w' => e = .returned (.int .i64 p1) ∧ Below w.heap.size w w')
    (c2 : ∀ w, Calls Try.prog 15 #[.agg (cs s a c d g k), .int .i64 x, .int .i64 y] w fun e w' => e = .returned (.int .i64 p2) ∧ Below w.heap.size w w')
    (a2 : ∀ w, Calls Try.prog 14 #[.agg (cs s a c d g k), .agg #[.string ⟨#[101, 110, 116, 114, 121]⟩, .int .i64 x, .int .i64 y]] w fun e w' => e = .returned (.int .i64 p2) ∧ Below w.heap.size w w')
    (c3 : ∀ w, Calls Try.prog 16 #[.agg (cs s a c d g k), .int .i64 x] w fun e w' => e = .returned (.int .i64 p3) ∧ Below w.heap.size w w')
    (a3 : ∀ w, Calls Try.prog 14 #[.agg (cs s a c d g k), .agg #[.string ⟨#[118, 105, 101, 119]⟩, .int .i64 x, .int .i64 0]] w fun e w' => e = .returned (.int .i64 p3) ∧ Below w.heap.size w w')
    (c4 : ∀ w, Calls Try.prog 17 #[.agg (cs s a c d g k), .int .i64 x] w fun e w' => e = .returned (.int .i64 p4) ∧ Below w.heap.size w w')
    (a4 : ∀ w, Calls Try.prog 14 #[.agg (cs s a c d g k), .agg #[.string ⟨#[115, 116, 97, 114, 116]⟩, .int .i64 x, .int .i64 0]] w fun e w' => e = .returned (.int .i64 p4) ∧ Below w.heap.size w w')
    (w : World) : Calls Try.prog 4 #[.agg (cs s a c d g k), .int .i64 x, .int .i64 y] w fun e w' => e = .returned (.bool true) ∧ Below w.heap.size w w' := by
  have c5 := awake_any
  have bel := alloc_below w (.cells #[.int .i64 s, .int .i64 a, .int .i64 c, .int .i64 d, .int .i64 g, .int .i64 k] 23)
  have hh := cfg_new w s a c d g k
  go_enter Try.func4, Try.ntmps4
  go_upto_region 1 with fail
  generalize w.alloc (.cells #[.int .i64 s, .int .i64 a, .int .i64 c, .int .i64 d, .int .i64 g, .int .i64 k] 23) = w0 at *
  have ec1 := in_region c1 w0
  have ea1 := in_region a1 w0
  have ec2 := in_region c2 w0
  have ea2 := in_region a2 w0
  have ec3 := in_region c3 w0
  have ea3 := in_region a3 w0
  have ec4 := in_region c4 w0
  have ea4 := in_region a4 w0
  have ec5 := in_region c5 w0
  have e2 : ∀ w', Below w0.heap.size w0 w' → _ := fun w' hw' => (hh.below hw').cells
  refine region_below (by kernel_rfl) (by kernel_rfl) ?_
  repeat (first | go_big_quiet_skip | (go_big_quiet_want; go_big_quiet_op; first | go_big_quiet_on | (refine ⟨_, fun _ _ => rfl, ?_⟩; go_big_quiet_on) | (with_reducible refine ⟨_, ec1, ?_⟩; go_big_quiet_on) | (with_reducible refine ⟨_, ea1, ?_⟩; go_big_quiet_on) | (with_reducible refine ⟨_, ec2, ?_⟩; go_big_quiet_on) | (with_reducible refine ⟨_, ea2, ?_⟩; go_big_quiet_on) | (with_reducible refine ⟨_, ec3, ?_⟩; go_big_quiet_on) | (with_reducible refine ⟨_, ea3, ?_⟩; go_big_quiet_on) | (with_reducible refine ⟨_, ec4, ?_⟩; go_big_quiet_on) | (with_reducible refine ⟨_, ea4, ?_⟩; go_big_quiet_on) | (with_reducible refine ⟨_, ec5, ?_⟩; go_big_quiet_on) | (refine ⟨.agg (cs s a c d g k), ?_, ?_⟩; (focus (intro w' hw'; obtain ⟨l0, l1, l2, l3, l4, l5⟩ := e2 w' hw'; simp [l0, l1, l2, l3, l4, l5, Result.andThen]; done)); go_big_quiet_on)))
  refine wpQuiet_nil ?_
  intro w8 hb8
  replace bel := seq_below bel hb8
  clear e2 ec1 ea1 ec2 ea2 ec3 ea3 ec4 ea4 ec5
  go_wp2
  go_ret
  exact ⟨rfl, bel⟩

theorem be_false {i n : Int} (h : ¬ (0 ≤ i ∧ i < n)) : be i n = false := (bool_no be_iff h).symm

theorem places_law (s a c d g k x y : Int) (w : World) : Calls Try.prog 4 #[.agg (cs s a c d g k), .int .i64 x, .int .i64 y] w fun e w' => e = .returned (.bool true) ∧ Below w.heap.size w w' := by
  cases hr : rightB s a c d g k
  · have f : ∀ i n, (rightB s a c d g k && be i n) = false := fun i n => by rw [hr]; rfl
    exact places_as s a c d g k x y (-1) (-1) (-1) (-1) (pin_no x (f _ _)) (at_wrong hr _ _ _ _ rfl) (entry_no x y (f _ _)) (at_wrong hr _ _ _ _ rfl) (view_no x (f _ _)) (at_wrong hr _ _ _ _ rfl) (start_no x (f _ _)) (at_wrong hr _ _ _ _ rfl) w
  · obtain ⟨C, D, S, B, rfl, rfl, rfl, hB, hB8, _, hD1, hC1, _⟩ := nat_cfg hr
    have wb := fun p hp => wat_b (C := C) (D := D) (B := B) (S := S) (p := p) hD1 hp
    by_cases hx : 0 ≤ x ∧ x < C
    · obtain ⟨X, rfl⟩ : ∃ X : Nat, x = (X : Int) := ⟨x.toNat, by omega⟩
      have hX : X < C := by omega
      have hbe : be X C = true := be_iff.2 hx
      have n1 : 4 + C ≤ nW C D B S := by unfold nW; omega
      have n2 : 4 + C + C * D + 2 * C ≤ nW C D B S := by unfold nW; omega
      have t1 := fun w => at_yes (g := g) (k := k) hr hB hB8 4 X 0 (4 + X) (by omega) (by omega) (wat_pin C D B X hX) w
      have t3 := fun w => at_yes (g := g) (k := k) hr hB hB8 6 X 0 (4 + C + C * D + 2 * X) (by omega) (by omega) (wat_view C D B X hX) w
      have t4 := fun w => at_yes (g := g) (k := k) hr hB hB8 7 X 0 (4 + C + C * D + 2 * X + 1) (by omega) (by omega) (wat_start C D B X hX) w
      have q1 := pin_yes (X : Int) hr hbe
      have q3 := view_yes (X : Int) hr hbe
      have q4 := start_yes (X : Int) hr hbe
      rw [show (4 : Int) + (X : Int) = ((4 + X : Nat) : Int) by omega] at q1
      rw [show (4 : Int) + C + C * D + 2 * X = ((4 + C + C * D + 2 * X : Nat) : Int) by push_cast; rfl] at q3
      rw [show (4 : Int) + C + C * D + 2 * X + 1 = ((4 + C + C * D + 2 * X + 1 : Nat) : Int) by push_cast; rfl] at q4
      by_cases hy : 0 ≤ y ∧ y < D
      · obtain ⟨Y, rfl⟩ : ∃ Y : Nat, y = (Y : Int) := ⟨y.toNat, by omega⟩
        have hY : Y < D := by omega
        have hm := mul_lt C D X Y hX hY
        have t2 := fun w => at_yes (g := g) (k := k) hr hB hB8 5 X Y (4 + C + X * D + Y) (by omega) (by omega) (wat_entry C D B X Y hX hY) w
        have q2 := entry_yes (X : Int) (Y : Int) hr hbe (be_iff.2 hy)
        rw [show (4 : Int) + C + X * D + Y = ((4 + C + X * D + Y : Nat) : Int) by push_cast; rfl] at q2
        exact places_as S a C D g k X Y _ _ _ _ q1 t1 q2 t2 q3 t3 q4 t4 w
      · have t2 := fun w => at_no (g := g) (k := k) hr hB hB8 5 X y (by omega) (fun p hp h1 h2 h3 => by have := wb p hp; omega) w
        have q2 := entry_no2 (X : Int) y (by rw [hr, hbe]; rfl) (be_false hy)
        exact places_as S a C D g k X y _ _ _ _ q1 t1 q2 t2 q3 t3 q4 t4 w
    · have f : ∀ n : Int, n = C → (rightB S a C D g k && be x n) = false := fun n hn => by rw [hn, be_false hx, Bool.and_false]
      have t1 := fun w => at_no (g := g) (k := k) hr hB hB8 4 x 0 (by omega) (fun p hp h1 h2 h3 => by have := wb p hp; omega) w
      have t2 := fun w => at_no (g := g) (k := k) hr hB hB8 5 x y (by omega) (fun p hp h1 h2 h3 => by have := wb p hp; omega) w
      have t3 := fun w => at_no (g := g) (k := k) hr hB hB8 6 x 0 (by omega) (fun p hp h1 h2 h3 => by have := wb p hp; omega) w
      have t4 := fun w => at_no (g := g) (k := k) hr hB hB8 7 x 0 (by omega) (fun p hp h1 h2 h3 => by have := wb p hp; omega) w
      exact places_as S a C D g k x y _ _ _ _ (pin_no x (f _ rfl)) t1 (entry_no x y (f _ rfl)) t2 (view_no x (f _ rfl)) t3 (start_no x (f _ rfl)) t4 w
end Go.Proofs.Ytcpbfbdmfkhaeab
