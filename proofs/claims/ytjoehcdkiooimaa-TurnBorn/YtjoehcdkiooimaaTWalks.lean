/- The ways through the laws of turn. -/
import Derived.Test.YtjoehcdkiooimaaParts
namespace Go.Proofs.Ytjoehcdkiooimaa
open Go.RowKit

theorem qR_small (q : Nat) : (qR q).natAbs < 2 ^ 53 := by
  unfold qR
  split
  · decide
  · split <;> decide
theorem qI_small (q : Nat) : (qI q).natAbs < 2 ^ 53 := by
  unfold qI
  split
  · decide
  · split <;> decide
theorem qOf_phase (q : Nat) (h : q < 4) : qOf (qR q) (qI q) = (q : Int) := by
  have h4 : q = 0 ∨ q = 1 ∨ q = 2 ∨ q = 3 := by omega
  rcases h4 with rfl | rfl | rfl | rfl <;> decide

theorem is_same {x y : Nat} {a b : Int} (hx : Rep x a) (hy : Rep y b) (ha : a.natAbs < 2 ^ 53) (hb : b.natAbs < 2 ^ 53) (w : World) :
    Calls Try.prog 11 #[.complex .f64 x y, .int .i64 a, .int .i64 b] w fun r w' => r = .returned (.bool true) ∧ w = w' := by
  have h := is_any hx hy ha hb w
  simpa using h

set_option maxHeartbeats 1000000 in
theorem ats_walk (e : Nat) (w : World) : Calls Try.prog 3 #[.int .u64 (e : Nat)] w fun r w' => r = .returned (.bool true) ∧ Below w.heap.size w w' := by
  have h4 : e % 4 < 4 := by omega
  have c1 := fun w => quarter_any (rep_phR (e % 4)) (rep_phI (e % 4)) w
  rw [qOf_phase _ h4] at c1
  have bel := Below.refl w.heap.size w
  go_enter Try.func3, Try.ntmps3
  go_wp2_with (first
    | (go_at_call 10; refine (phase_any e _).mono ?_; rintro r w0 ⟨rfl, rfl⟩)
    | (go_at_call 9; refine (parts_any (e % 4) h4 _).mono ?_; rintro r w1 ⟨rfl, b⟩; replace bel := seq_below bel b; clear b)
    | (go_at_call 12; refine (at_any e _).mono ?_; rintro r w2 ⟨rfl, b⟩; replace bel := seq_below bel b; clear b)
    | (go_at_call 11; refine (is_same (rep_phR _) (rep_phI _) (qR_small _) (qI_small _) _).mono ?_; rintro r w3 ⟨rfl, rfl⟩)
    | (go_at_call 13; refine (c1 _).mono ?_; rintro r w4 ⟨rfl, b⟩; replace bel := seq_below bel b; clear b)
    | (go_at_call 14; refine (awake_any _).mono ?_; rintro r w5 ⟨rfl, b⟩; replace bel := seq_below bel b; clear b))
  go_ret
  exact ⟨rfl, bel⟩

set_option maxHeartbeats 1000000 in
theorem born_walk (e : Nat) (he : e < 18446744073709551616) (w : World) : Calls Try.prog 7 #[.int .u64 (e : Nat)] w fun r w' => r = .returned (.bool true) ∧ Below w.heap.size w w' := by
  have bel := Below.refl w.heap.size w
  go_enter Try.func7, Try.ntmps7
  go_wp2_with (first
    | (go_at_call 22; refine (born_any e he _).mono ?_; rintro r w1 ⟨rfl, b⟩; replace bel := seq_below bel b; clear b)
    | (go_at_call 23; refine (rborn_any e he _).mono ?_; rintro r w2 ⟨rfl, rfl⟩)
    | (go_at_call 24; refine (cycle_any e he _).mono ?_; rintro r w2 ⟨rfl, rfl⟩)
    | (go_at_call 25; refine (black_any e he _).mono ?_; rintro r w2 ⟨rfl, rfl⟩)
    | (go_at_call 26; refine (rblack_any e he _).mono ?_; rintro r w2 ⟨rfl, rfl⟩)
    | (go_at_call 14; refine (awake_any _).mono ?_; rintro r w5 ⟨rfl, b⟩; replace bel := seq_below bel b; clear b))
  go_ret
  exact ⟨rfl, bel⟩

theorem fence_eq (e : Nat) : decide (qR (e % 4) < qI (e % 4)) = decide (e % 4 = 1 ∨ e % 4 = 2) := by
  have h4 : e % 4 = 0 ∨ e % 4 = 1 ∨ e % 4 = 2 ∨ e % 4 = 3 := by omega
  rcases h4 with h | h | h | h <;> rw [h] <;> decide

set_option maxHeartbeats 1000000 in
theorem barriers_walk (e : Nat) (a b : Int) (ha : a.natAbs ≤ 32768) (hb : b.natAbs ≤ 32768) (w : World) :
    Calls Try.prog 6 #[.int .u64 (e : Nat), .int .i16 a, .int .i16 b] w fun r w' => r = .returned (.bool true) ∧ Below w.heap.size w w' := by
  have c1 := fun w => barrier_any (rep_phR (e % 4)) (rep_phI (e % 4)) w
  have c2 := fun w => fenced_any e w
  have c3 := fun w => barrier_any (rep_int a (by omega)) (rep_int b (by omega)) w
  have c4 := fun w => rbarrier_any e w
  rw [fence_eq] at c1 c2
  generalize decide (e % 4 = 1 ∨ e % 4 = 2) = z at *
  have bel := Below.refl w.heap.size w
  go_enter Try.func6, Try.ntmps6
  go_wp2_with (first
    | (go_at_call 12; refine (at_any e _).mono ?_; rintro r w1 ⟨rfl, b⟩; replace bel := seq_below bel b; clear b)
    | (go_at_call 19; with_reducible refine (c1 _).mono ?_; rintro r w2 ⟨rfl, rfl⟩)
    | (go_at_call 20; refine (c4 _).mono ?_; rintro r w2 ⟨rfl, rfl⟩)
    | (go_at_call 21; refine (c2 _).mono ?_; rintro r w2 ⟨rfl, b⟩; replace bel := seq_below bel b; clear b)
    | (go_at_call 15; refine (of_any a b _).mono ?_; rintro r w2 ⟨rfl, rfl⟩)
    | (go_at_call 19; with_reducible refine (c3 _).mono ?_; rintro r w2 ⟨rfl, rfl⟩)
    | (go_at_call 14; refine (awake_any _).mono ?_; rintro r w5 ⟨rfl, b⟩; replace bel := seq_below bel b; clear b))
  go_ret
  exact ⟨rfl, bel⟩

theorem between_eq (e f : Nat) : bOf (qR (e % 4)) (qI (e % 4)) (qR (f % 4)) (qI (f % 4)) = ((f : Int) % 4 + 4 - (e : Int) % 4) % 4 := by
  have h4 : e % 4 = 0 ∨ e % 4 = 1 ∨ e % 4 = 2 ∨ e % 4 = 3 := by omega
  have k4 : f % 4 = 0 ∨ f % 4 = 1 ∨ f % 4 = 2 ∨ f % 4 = 3 := by omega
  have he : (e : Int) % 4 = ((e % 4 : Nat) : Int) := by omega
  have hf : (f : Int) % 4 = ((f % 4 : Nat) : Int) := by omega
  rw [he, hf]
  rcases h4 with h | h | h | h <;> rcases k4 with k | k | k | k <;> rw [h, k] <;> decide

set_option maxHeartbeats 2000000 in
theorem betweens_walk (e f : Nat) (a b : Int) (ha : a.natAbs ≤ 32768) (hb : b.natAbs ≤ 32768) (w : World) :
    Calls Try.prog 5 #[.int .u64 (e : Nat), .int .u64 (f : Nat), .int .i16 a, .int .i16 b] w fun r w' => r = .returned (.bool true) ∧ Below w.heap.size w w' := by
  have ra := rep_int a (by omega)
  have rb := rep_int b (by omega)
  have c1 := fun w => between_any (rep_phR (e % 4)) (rep_phI (e % 4)) (rep_phR (f % 4)) (rep_phI (f % 4)) w
  have c2 := fun w => quarter_any ra rb w
  have c3 := fun w => between_any ra rb (rep_phR (e % 4)) (rep_phI (e % 4)) w
  have c4 := fun w => between_any (rep_phR (e % 4)) (rep_phI (e % 4)) ra rb w
  rw [between_eq] at c1
  have bel := Below.refl w.heap.size w
  by_cases h : qOf a b < 0
  · have e3 : bOf a b (qR (e % 4)) (qI (e % 4)) = -1 := by unfold bOf; rw [if_pos (Or.inl h)]
    have e4 : bOf (qR (e % 4)) (qI (e % 4)) a b = -1 := by unfold bOf; rw [if_pos (Or.inr h)]
    rw [e3] at c3
    rw [e4] at c4
    clear e3 e4
    go_enter Try.func5, Try.ntmps5
    go_wp2_with (first
      | (go_at_call 12; with_reducible refine (at_any e _).mono ?_; rintro r w1 ⟨rfl, b⟩; replace bel := seq_below bel b; clear b)
      | (go_at_call 12; with_reducible refine (at_any f _).mono ?_; rintro r w1 ⟨rfl, b⟩; replace bel := seq_below bel b; clear b)
      | (go_at_call 18; with_reducible refine (c1 _).mono ?_; rintro r w2 ⟨rfl, b⟩; replace bel := seq_below bel b; clear b)
      | (go_at_call 15; refine (of_any a b _).mono ?_; rintro r w2 ⟨rfl, rfl⟩)
      | (go_at_call 13; with_reducible refine (c2 _).mono ?_; rintro r w2 ⟨rfl, b⟩; replace bel := seq_below bel b; clear b)
      | (go_at_call 18; with_reducible refine (c3 _).mono ?_; rintro r w2 ⟨rfl, b⟩; replace bel := seq_below bel b; clear b)
      | (go_at_call 18; with_reducible refine (c4 _).mono ?_; rintro r w2 ⟨rfl, b⟩; replace bel := seq_below bel b; clear b)
      | (go_at_call 14; refine (awake_any _).mono ?_; rintro r w5 ⟨rfl, b⟩; replace bel := seq_below bel b; clear b))
    go_ret
    exact ⟨rfl, bel⟩
  · go_enter Try.func5, Try.ntmps5
    go_wp2_with (first
      | (go_at_call 12; with_reducible refine (at_any e _).mono ?_; rintro r w1 ⟨rfl, b⟩; replace bel := seq_below bel b; clear b)
      | (go_at_call 12; with_reducible refine (at_any f _).mono ?_; rintro r w1 ⟨rfl, b⟩; replace bel := seq_below bel b; clear b)
      | (go_at_call 18; with_reducible refine (c1 _).mono ?_; rintro r w2 ⟨rfl, b⟩; replace bel := seq_below bel b; clear b)
      | (go_at_call 15; refine (of_any a b _).mono ?_; rintro r w2 ⟨rfl, rfl⟩)
      | (go_at_call 13; with_reducible refine (c2 _).mono ?_; rintro r w2 ⟨rfl, b⟩; replace bel := seq_below bel b; clear b)
      | (go_at_call 14; refine (awake_any _).mono ?_; rintro r w5 ⟨rfl, b⟩; replace bel := seq_below bel b; clear b))
    go_ret
    exact ⟨rfl, bel⟩

theorem next_phase (e : Nat) : qR ((e + 1) % 4) = -qI (e % 4) ∧ qI ((e + 1) % 4) = qR (e % 4) := by
  have h4 : e % 4 = 0 ∨ e % 4 = 1 ∨ e % 4 = 2 ∨ e % 4 = 3 := by omega
  rcases h4 with h | h | h | h
  · rw [show (e + 1) % 4 = 1 by omega, h]; decide
  · rw [show (e + 1) % 4 = 2 by omega, h]; decide
  · rw [show (e + 1) % 4 = 3 by omega, h]; decide
  · rw [show (e + 1) % 4 = 0 by omega, h]; decide

theorem rep_same {x y x' y' : Nat} {a b a' b' : Int} (hx : Rep x a) (hy : Rep y b) (hx' : Rep x' a') (hy' : Rep y' b') (h1 : a = a') (h2 : b = b') :
    (FloatKind.f64.format.order x x' == some .eq && FloatKind.f64.format.order y y' == some .eq) = true := by
  rw [rep_eq hx hx', rep_eq hy hy']
  simp [h1, h2]

theorem q_small (q : Nat) : Small (qR q) ∧ Small (qI q) := by
  constructor
  · unfold qR Small
    split
    · decide
    · split <;> decide
  · unfold qI Small
    split
    · decide
    · split <;> decide

set_option maxHeartbeats 4000000 in
theorem round_walk (a b : Int) (e : Nat) (ha : a.natAbs ≤ 32768) (hb : b.natAbs ≤ 32768) (he : e < 18446744073709551616) (w : World) :
    Calls Try.prog 8 #[.int .i16 a, .int .i16 b, .int .u64 (e : Nat)] w fun r w' => r = .returned (.bool true) ∧ Below w.heap.size w w' := by
  have ra := rep_int a (by omega)
  have rb := rep_int b (by omega)
  have sa : Small a := by unfold Small; omega
  have sb : Small b := by unfold Small; omega
  have na : Small (-a) := by unfold Small; omega
  have nb : Small (-b) := by unfold Small; omega
  have bel := Below.refl w.heap.size w
  by_cases h : e = 18446744073709551615
  · subst h
    go_enter Try.func8, Try.ntmps8
    go_wp2_with (first
      | (go_at_call 15; refine (of_any a b _).mono ?_; rintro r w2 ⟨rfl, rfl⟩)
      | (go_at_call 16; with_reducible refine (next_any ra rb sa sb _).mono ?_; rintro r w2 ⟨⟨p1, q1, rfl, hp1, hq1⟩, rfl⟩)
      | (go_at_call 16; with_reducible refine (next_any hp1 hq1 nb sa _).mono ?_; rintro r w2 ⟨⟨p2, q2, rfl, hp2, hq2⟩, rfl⟩)
      | (go_at_call 16; with_reducible refine (next_any hp2 hq2 na nb _).mono ?_; rintro r w2 ⟨⟨p3, q3, rfl, hp3, hq3⟩, rfl⟩)
      | (go_at_call 16; with_reducible refine (next_any hp3 hq3 (by rw [Int.neg_neg]; exact sb) na _).mono ?_; rintro r w2 ⟨⟨p4, q4, rfl, hp4, hq4⟩, rfl⟩; have k4 := rep_same hp4 hq4 ra rb (Int.neg_neg a) (Int.neg_neg b))
      | (go_at_call 17; with_reducible refine (back_any hp1 hq1 nb sa _).mono ?_; rintro r w2 ⟨⟨p5, q5, rfl, hp5, hq5⟩, rfl⟩; have k5 := rep_same hp5 hq5 ra rb rfl (Int.neg_neg b))
      | (go_at_call 14; refine (awake_any _).mono ?_; rintro r w5 ⟨rfl, b⟩; replace bel := seq_below bel b; clear b))
    go_ret
    exact ⟨rfl, bel⟩
  · have hn := next_phase e
    obtain ⟨s1, s2⟩ := q_small (e % 4)
    have c0 : ∀ w, Calls Try.prog 12 #[.int .u64 ((e : Int) + 1)] w fun r w' => r = .returned (.complex .f64 (phR ((e + 1) % 4)) (phI ((e + 1) % 4))) ∧ Below w.heap.size w w' := fun w => at_any (e + 1) w
    go_enter Try.func8, Try.ntmps8
    go_wp2_with (first
      | (go_at_call 15; refine (of_any a b _).mono ?_; rintro r w2 ⟨rfl, rfl⟩)
      | (go_at_call 16; with_reducible refine (next_any ra rb sa sb _).mono ?_; rintro r w2 ⟨⟨p1, q1, rfl, hp1, hq1⟩, rfl⟩)
      | (go_at_call 16; with_reducible refine (next_any hp1 hq1 nb sa _).mono ?_; rintro r w2 ⟨⟨p2, q2, rfl, hp2, hq2⟩, rfl⟩)
      | (go_at_call 16; with_reducible refine (next_any hp2 hq2 na nb _).mono ?_; rintro r w2 ⟨⟨p3, q3, rfl, hp3, hq3⟩, rfl⟩)
      | (go_at_call 16; with_reducible refine (next_any hp3 hq3 (by rw [Int.neg_neg]; exact sb) na _).mono ?_; rintro r w2 ⟨⟨p4, q4, rfl, hp4, hq4⟩, rfl⟩; have k4 := rep_same hp4 hq4 ra rb (Int.neg_neg a) (Int.neg_neg b))
      | (go_at_call 12; with_reducible refine (c0 _).mono ?_; rintro r w2 ⟨rfl, b⟩; replace bel := seq_below bel b; clear b)
      | (go_at_call 12; with_reducible refine (at_any e _).mono ?_; rintro r w2 ⟨rfl, b⟩; replace bel := seq_below bel b; clear b)
      | (go_at_call 16; with_reducible refine (next_any (rep_phR (e % 4)) (rep_phI (e % 4)) s1 s2 _).mono ?_; rintro r w2 ⟨⟨p6, q6, rfl, hp6, hq6⟩, rfl⟩; have k6 := rep_same (rep_phR ((e + 1) % 4)) (rep_phI ((e + 1) % 4)) hp6 hq6 hn.1 hn.2)
      | (go_at_call 17; with_reducible refine (back_any hp1 hq1 nb sa _).mono ?_; rintro r w2 ⟨⟨p5, q5, rfl, hp5, hq5⟩, rfl⟩; have k5 := rep_same hp5 hq5 ra rb rfl (Int.neg_neg b))
      | (go_at_call 14; refine (awake_any _).mono ?_; rintro r w5 ⟨rfl, b⟩; replace bel := seq_below bel b; clear b))
    go_ret
    exact ⟨rfl, bel⟩

theorem is_phase {x y : Nat} {a b : Int} (hx : Rep x a) (hy : Rep y b) (c d : Int) (hc : c.natAbs < 2 ^ 53) (hd : d.natAbs < 2 ^ 53) (z : Bool) (hz : decide (a = c ∧ b = d) = z) (w : World) :
    Calls Try.prog 11 #[.complex .f64 x y, .int .i64 c, .int .i64 d] w fun r w' => r = .returned (.bool z) ∧ w = w' := by
  have h := is_any hx hy hc hd w
  rw [← Bool.decide_and, hz] at h
  exact h

set_option maxHeartbeats 8000000 in
theorem steps_some (a b : Int) (z0 z1 z2 z3 : Bool) (ha : a.natAbs ≤ 32768) (hb : b.natAbs ≤ 32768)
    (h0 : decide (a = 1 ∧ b = 0) = z0) (h1 : decide (a = 0 ∧ b = 1) = z1) (h2 : decide (a = -1 ∧ b = 0) = z2) (h3 : decide (a = 0 ∧ b = -1) = z3)
    (hz : [z0, z1, z2, z3] ∈ [[true, false, false, false], [false, true, false, false], [false, false, true, false], [false, false, false, true], [false, false, false, false]]) (w : World) :
    Calls Try.prog 4 #[.int .i16 a, .int .i16 b] w fun r w' => r = .returned (.bool true) ∧ Below w.heap.size w w' := by
  have ra := rep_int a (by omega)
  have rb := rep_int b (by omega)
  have sa : Small a := by unfold Small; omega
  have sb : Small b := by unfold Small; omega
  have i0 := is_phase ra rb 1 0 (by decide) (by decide) z0 h0
  have i1 := is_phase ra rb 0 1 (by decide) (by decide) z1 h1
  have i2 := is_phase ra rb (-1) 0 (by decide) (by decide) z2 h2
  have i3 := is_phase ra rb 0 (-1) (by decide) (by decide) z3 h3
  have c9 := fun w => quarter_any ra rb w
  have hq : qOf a b = if z0 then 0 else if z1 then 1 else if z2 then 2 else if z3 then 3 else -1 := by
    rw [← h0, ← h1, ← h2, ← h3]
    simp only [decide_eq_true_eq]
    rfl
  rw [hq] at c9
  clear h0 h1 h2 h3 hq
  have bel := Below.refl w.heap.size w
  simp only [List.mem_cons, List.cons.injEq, and_true, List.not_mem_nil, or_false] at hz
  rcases hz with ⟨rfl, rfl, rfl, rfl⟩ | ⟨rfl, rfl, rfl, rfl⟩ | ⟨rfl, rfl, rfl, rfl⟩ | ⟨rfl, rfl, rfl, rfl⟩ | ⟨rfl, rfl, rfl, rfl⟩
  all_goals
    simp only [if_true, Bool.false_eq_true, if_false] at c9
    go_enter Try.func4, Try.ntmps4
    go_wp2_with (go_at_call 15; refine (of_any a b _).mono ?_; rintro r w2 ⟨rfl, rfl⟩)
    refine wp_loop_rounds 5 ?_
    rw [rounds_succ]
    go_wp2_with (first
      | (go_at_call 9; with_reducible refine (parts0 _).mono ?_; rintro r w2 ⟨rfl, b⟩; replace bel := seq_below bel b; clear b)
      | (go_at_call 11; with_reducible refine (i0 _).mono ?_; rintro r w2 ⟨rfl, rfl⟩))
    rw [rounds_succ]
    go_wp2_with (first
      | (go_at_call 9; with_reducible refine (parts1 _).mono ?_; rintro r w2 ⟨rfl, b⟩; replace bel := seq_below bel b; clear b)
      | (go_at_call 11; with_reducible refine (i1 _).mono ?_; rintro r w2 ⟨rfl, rfl⟩))
    rw [rounds_succ]
    go_wp2_with (first
      | (go_at_call 9; with_reducible refine (parts2 _).mono ?_; rintro r w2 ⟨rfl, b⟩; replace bel := seq_below bel b; clear b)
      | (go_at_call 11; with_reducible refine (i2 _).mono ?_; rintro r w2 ⟨rfl, rfl⟩))
    rw [rounds_succ]
    go_wp2_with (first
      | (go_at_call 9; with_reducible refine (parts3 _).mono ?_; rintro r w2 ⟨rfl, b⟩; replace bel := seq_below bel b; clear b)
      | (go_at_call 11; with_reducible refine (i3 _).mono ?_; rintro r w2 ⟨rfl, rfl⟩))
    rw [rounds_succ]
    go_wp2_with (first
      | (go_at_call 16; with_reducible refine (next_any ra rb sa sb _).mono ?_; rintro r w2 ⟨⟨p1, q1, rfl, hp1, hq1⟩, rfl⟩)
      | (go_at_call 17; with_reducible refine (back_any ra rb sa sb _).mono ?_; rintro r w2 ⟨⟨p2, q2, rfl, hp2, hq2⟩, rfl⟩)
      | (go_at_call 11; with_reducible refine (is_same hp1 hq1 (by omega) (by omega) _).mono ?_; rintro r w2 ⟨rfl, rfl⟩)
      | (go_at_call 11; with_reducible refine (is_same hp2 hq2 (by omega) (by omega) _).mono ?_; rintro r w2 ⟨rfl, rfl⟩)
      | (go_at_call 13; with_reducible refine (c9 _).mono ?_; rintro r w2 ⟨rfl, b⟩; replace bel := seq_below bel b; clear b)
      | (go_at_call 14; refine (awake_any _).mono ?_; rintro r w5 ⟨rfl, b⟩; replace bel := seq_below bel b; clear b))
    go_ret
    exact ⟨rfl, bel⟩

theorem steps_walk (a b : Int) (ha : a.natAbs ≤ 32768) (hb : b.natAbs ≤ 32768) (w : World) :
    Calls Try.prog 4 #[.int .i16 a, .int .i16 b] w fun r w' => r = .returned (.bool true) ∧ Below w.heap.size w w' := by
  refine steps_some a b _ _ _ _ ha hb rfl rfl rfl rfl ?_ w
  by_cases c0 : a = 1 ∧ b = 0
  · obtain ⟨rfl, rfl⟩ := c0; decide
  by_cases c1 : a = 0 ∧ b = 1
  · obtain ⟨rfl, rfl⟩ := c1; decide
  by_cases c2 : a = -1 ∧ b = 0
  · obtain ⟨rfl, rfl⟩ := c2; decide
  by_cases c3 : a = 0 ∧ b = -1
  · obtain ⟨rfl, rfl⟩ := c3; decide
  rw [decide_eq_false c0, decide_eq_false c1, decide_eq_false c2, decide_eq_false c3]
  decide
end Go.Proofs.Ytjoehcdkiooimaa
