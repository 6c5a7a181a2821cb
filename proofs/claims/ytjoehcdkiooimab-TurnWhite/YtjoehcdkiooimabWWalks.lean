/- The ways through TurnWhite and TurnProduct. -/
import Derived.Test.YtjoehcdkiooimabTBase
namespace Go.Proofs.Ytjoehcdkiooimab
open Go.RowKit

theorem born_at (n : Nat) (i v : Int) (h : i = (n : Int)) (hn : n < 18446744073709551616) (hv : bornOf n = v) (w : World) :
    Calls Try.prog 5 #[.int .u64 i] w fun r w' => r = .returned (.int .i64 v) ∧ Below w.heap.size w w' := by
  subst h hv
  exact born_any n hn w
theorem black_at (n : Nat) (i v : Int) (h : i = (n : Int)) (hn : n < 18446744073709551616) (hv : blackOf n = v) (w : World) :
    Calls Try.prog 6 #[.int .u64 i] w fun r w' => r = .returned (.int .i64 v) ∧ w = w' := by
  subst h hv
  exact black_any n hn w

set_option maxRecDepth 100000 in
set_option maxHeartbeats 2000000 in
theorem white_walk (e : Nat) (he : e < 18446744073709551616) (w : World) : Calls Try.prog 3 #[.int .u64 (e : Nat)] w fun r w' => r = .returned (.bool true) ∧ Below w.heap.size w w' := by
  obtain ⟨c, hc, hl⟩ : ∃ c : Nat, (e : Int) / 4 % 1152921504606846976 = (c : Int) ∧ c < 1152921504606846976 := ⟨e / 4 % 1152921504606846976, by omega, by omega⟩
  obtain ⟨m, hm, hm2⟩ : ∃ m : Int, m = 1 - ((c % 2 : Nat) : Int) ∧ (m = 0 ∨ m = 1) := ⟨_, rfl, by omega⟩
  have c3 := born_at (4 * c + 3) (4 * (c : Int) + 3) m (by omega) (by omega) (by unfold bornOf blackOf; rw [if_neg (by omega)]; omega)
  have c2 := born_at (4 * c + 2) (4 * (c : Int) + 2) m (by omega) (by omega) (by unfold bornOf blackOf; rw [if_neg (by omega)]; omega)
  have c1 := born_at (4 * c + 1) (4 * (c : Int) + 1) m (by omega) (by omega) (by unfold bornOf blackOf; rw [if_neg (by omega)]; omega)
  have c4 := born_at (4 * c + 4) (4 * (c : Int) + 4) m (by omega) (by omega) (by unfold bornOf blackOf; rw [if_pos (by omega)]; omega)
  have c0 := born_at (4 * c) (4 * (c : Int)) (1 - m) (by omega) (by omega) (by unfold bornOf blackOf; rw [if_pos (by omega)]; omega)
  have d4 := black_at (4 * c + 4) (4 * (c : Int) + 4) (1 - m) (by omega) (by omega) (by unfold blackOf; omega)
  clear hm
  have bel := Below.refl w.heap.size w
  rcases hm2 with rfl | rfl
  all_goals
    go_enter Try.func3, Try.ntmps3
    go_wp2_with (first
      | (go_at_call 5; with_reducible refine (c3 _).mono ?_; rintro r w1 ⟨rfl, b⟩; replace bel := seq_below bel b; clear b)
      | (go_at_call 5; with_reducible refine (c2 _).mono ?_; rintro r w1 ⟨rfl, b⟩; replace bel := seq_below bel b; clear b)
      | (go_at_call 5; with_reducible refine (c1 _).mono ?_; rintro r w1 ⟨rfl, b⟩; replace bel := seq_below bel b; clear b)
      | (go_at_call 5; with_reducible refine (c4 _).mono ?_; rintro r w1 ⟨rfl, b⟩; replace bel := seq_below bel b; clear b)
      | (go_at_call 5; with_reducible refine (c0 _).mono ?_; rintro r w1 ⟨rfl, b⟩; replace bel := seq_below bel b; clear b)
      | (go_at_call 6; with_reducible refine (d4 _).mono ?_; rintro r w1 ⟨rfl, rfl⟩)
      | (go_at_call 7; refine (awake_any _).mono ?_; rintro r w5 ⟨rfl, b⟩; replace bel := seq_below bel b; clear b))
    go_ret
    exact ⟨rfl, bel⟩

theorem at_nat (n : Nat) (i : Int) (h : i = (n : Int)) (w : World) : Calls Try.prog 8 #[.int .u64 i] w fun r w' =>
    r = .returned (.complex .f64 (phR (n % 4)) (phI (n % 4))) ∧ Below w.heap.size w w' := by
  subst h
  exact at_any n w

theorem rep_same {x y x' y' : Nat} {a b a' b' : Int} (hx : Rep x a) (hy : Rep y b) (hx' : Rep x' a') (hy' : Rep y' b') (h1 : a = a') (h2 : b = b') :
    (FloatKind.f64.format.order x x' == some .eq && FloatKind.f64.format.order y y' == some .eq) = true := by
  rw [rep_eq hx hx', rep_eq hy hy']
  simp [h1, h2]

theorem product_eq (a b : Nat) : qR ((a + b) % 4) = qR (a % 4) * qR (b % 4) - qI (a % 4) * qI (b % 4) ∧ qI ((a + b) % 4) = qR (a % 4) * qI (b % 4) + qI (a % 4) * qR (b % 4) := by
  have h4 : a % 4 = 0 ∨ a % 4 = 1 ∨ a % 4 = 2 ∨ a % 4 = 3 := by omega
  have k4 : b % 4 = 0 ∨ b % 4 = 1 ∨ b % 4 = 2 ∨ b % 4 = 3 := by omega
  rw [Nat.add_mod]
  rcases h4 with h | h | h | h <;> rcases k4 with k | k | k | k <;> rw [h, k] <;> decide

theorem q_one (q : Nat) : (qR q).natAbs ≤ 1 ∧ (qI q).natAbs ≤ 1 := by
  constructor
  · unfold qR
    split
    · decide
    · split <;> decide
  · unfold qI
    split
    · decide
    · split <;> decide

set_option maxHeartbeats 2000000 in
theorem product_walk (e f : Nat) (w : World) : Calls Try.prog 4 #[.int .u64 (e : Nat), .int .u64 (f : Nat)] w fun r w' => r = .returned (.bool true) ∧ Below w.heap.size w w' := by
  obtain ⟨a, ha, la⟩ : ∃ a : Nat, (e : Int) % 4611686018427387904 = (a : Int) ∧ a < 4611686018427387904 := ⟨e % 4611686018427387904, by omega, by omega⟩
  obtain ⟨b, hb, lb⟩ : ∃ b : Nat, (f : Int) % 4611686018427387904 = (b : Int) ∧ b < 4611686018427387904 := ⟨f % 4611686018427387904, by omega, by omega⟩
  have c1 := at_nat (a + b) ((a : Int) + (b : Int)) (by omega)
  have c2 := at_nat a (a : Int) rfl
  have c3 := at_nat b (b : Int) rfl
  obtain ⟨s1, s2⟩ := q_one (a % 4)
  obtain ⟨t1, t2⟩ := q_one (b % 4)
  have m1 := mul_small s1 t1
  have m2 := mul_small s2 t2
  have m3 := mul_small s1 t2
  have m4 := mul_small s2 t1
  obtain ⟨p, q, he, hp, hq⟩ := rep_cmul (rep_phR (a % 4)) (rep_phI (a % 4)) (rep_phR (b % 4)) (rep_phI (b % 4)) (by omega) (by omega) (by omega) (by omega) (by omega) (by omega)
  have k := rep_same (rep_phR ((a + b) % 4)) (rep_phI ((a + b) % 4)) hp hq (product_eq a b).1 (product_eq a b).2
  have hop := fun t' w => run_complex_mul (P := Try.prog) w t' _ _ _ _ p q he
  clear s1 s2 t1 t2 m1 m2 m3 m4 hp hq
  have bel := Below.refl w.heap.size w
  go_enter Try.func4, Try.ntmps4
  go_wp2_with (first
    | (go_at_call 8; with_reducible refine (c1 _).mono ?_; rintro r w1 ⟨rfl, b⟩; replace bel := seq_below bel b; clear b)
    | (go_at_call 8; with_reducible refine (c2 _).mono ?_; rintro r w1 ⟨rfl, b⟩; replace bel := seq_below bel b; clear b)
    | (go_at_call 8; with_reducible refine (c3 _).mono ?_; rintro r w1 ⟨rfl, b⟩; replace bel := seq_below bel b; clear b)
    | (go_at_call 7; refine (awake_any _).mono ?_; rintro r w5 ⟨rfl, b⟩; replace bel := seq_below bel b; clear b))
  go_ret
  exact ⟨rfl, bel⟩
end Go.Proofs.Ytjoehcdkiooimab
