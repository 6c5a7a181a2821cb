/- The ways through the law WordBack, one theorem each. -/
import Derived.Test.YteeocnknocoefaaAwake
namespace Go.Proofs.Yteeocnknocoefaa
open Go.RowKit

theorem testBit_setN (W a n V i : Nat) : (setN W a n V).testBit i = (decide (i < 64) && if a ≤ i ∧ i < a + n then V.testBit (i - a) else W.testBit i) := by
  rw [setN, testBit_bitsOf]

theorem back_get (W a n V : Nat) (h : a + n ≤ 64) : getN (setN W a n V) a n = getN V 0 n := by
  apply Nat.eq_of_testBit_eq
  intro i
  rw [testBit_getN, testBit_getN, testBit_setN]
  by_cases hi : i < n
  · have h1 : a + i < 64 := by omega
    have h2 : a ≤ a + i ∧ a + i < a + n := by omega
    have h3 : a + i - a = i := by omega
    simp [hi, h1, h3]
  · simp [hi]

theorem back_beside (W a n V k : Nat) (hk : k < 64) (h : k < a ∨ a + n ≤ k) : getN (setN W a n V) k 1 = getN W k 1 := by
  apply Nat.eq_of_testBit_eq
  intro i
  rw [testBit_getN, testBit_getN, testBit_setN]
  by_cases hi : i < 1
  · have h0 : i = 0 := by omega
    subst h0
    have h1 : ¬ (a ≤ k + 0 ∧ k + 0 < a + n) := by omega
    rw [if_neg h1]
    simp [hk]
  · simp [hi]

theorem back_set (W a n V : Nat) (hW : W < 18446744073709551616) : setN (setN W a n V) a n (getN W a n) = W := by
  apply Nat.eq_of_testBit_eq
  intro i
  rw [testBit_setN, testBit_getN, testBit_setN]
  by_cases hi : i < 64
  · by_cases h1 : a ≤ i ∧ i < a + n
    · have h2 : i - a < n := by omega
      have h3 : a + (i - a) = i := by omega
      simp [hi, h1, h2, h3]
    · simp [hi, h1]
  · have : W.testBit i = false := Nat.testBit_lt_two_pow (Nat.lt_of_lt_of_le hW (Nat.pow_le_pow_right (n := 2) (i := 64) (by omega) (by omega)))
    simp [hi, this]

theorem below3 {w w' : World} {m1 : Nat} (h : Below (w.drewN m1).heap.size (w.drewN m1) w') : Below w.heap.size w w' := (below_drewN (Below.refl _ _) _).trans h

theorem other_k (x : Int) : ∃ k : Nat, k < 64 ∧ wrap64 ((IntKind.u64.wrap x).tmod 64) = (k : Int) := by
  rw [IntKind.wrap_u64]
  have h0 : 0 ≤ x % 18446744073709551616 := Int.emod_nonneg _ (by omega)
  rw [Int.tmod_eq_emod_of_nonneg h0]
  exact ⟨(x % 18446744073709551616 % 64).toNat, by omega, by rw [IntWalk.wrap64_in _ (by omega)]; omega⟩

set_option maxHeartbeats 400000 in
theorem back_in (W a n V k X G2 G3 : Nat) (x : Int) (w : World)
  (c0 : ∀ w, Calls Try.prog 12 #[.int .u64 W, .int .i64 a, .int .i64 n, .int .u64 V] w fun e w' => e = .returned (.int .u64 X) ∧ w = w')
  (c3 : ∀ w, Calls Try.prog 9 #[.int .u64 X, .int .i64 a, .int .i64 n] w fun e w' => e = .returned (.int .u64 G2) ∧ ∃ m, w' = w.drewN m)
  (c4 : ∀ w, Calls Try.prog 9 #[.int .u64 V, .int .i64 0, .int .i64 n] w fun e w' => e = .returned (.int .u64 G2) ∧ ∃ m, w' = w.drewN m)
  (c5 : ∀ w, Calls Try.prog 9 #[.int .u64 W, .int .i64 a, .int .i64 n] w fun e w' => e = .returned (.int .u64 G3) ∧ ∃ m, w' = w.drewN m)
  (c6 : ∀ w, Calls Try.prog 12 #[.int .u64 X, .int .i64 a, .int .i64 n, .int .u64 G3] w fun e w' => e = .returned (.int .u64 W) ∧ w = w')
  (hx : wrap64 ((IntKind.u64.wrap x).tmod 64) = (k : Int)) (h1 : 1 ≤ n) (h2 : a + n ≤ 64)
    (h3 : a ≤ k) (h4 : k < a + n) :
    Calls Try.prog 8 #[.int .u64 W, .int .i64 a, .int .i64 n, .int .u64 V, .int .i64 x] w fun e w' => e = .returned (.bool true) ∧ Below w.heap.size w w' := by
  go_enter Try.func8, Try.ntmps8
  go_wp2_with (first
    | (go_at_call_of 12 (Value.int .u64 (V : Int)); refine (c0 _).mono ?_; rintro e w' ⟨rfl, rfl⟩)
    | (go_at_call_of 12 (Value.int .u64 (G3 : Int)); refine (c6 _).mono ?_; rintro e w' ⟨rfl, rfl⟩)
    | (go_at_call_of 9 (Value.int .u64 (X : Int)); refine (c3 _).mono ?_; rintro e w' ⟨rfl, m3, rfl⟩)
    | (go_at_call_of 9 (Value.int .u64 (V : Int)); refine (c4 _).mono ?_; rintro e w' ⟨rfl, m4, rfl⟩)
    | (go_at_call_of 9 (Value.int .u64 (W : Int)); refine (c5 _).mono ?_; rintro e w' ⟨rfl, m5, rfl⟩)
    | (go_at_call 11; refine (awake_any _).mono ?_; rintro e w' ⟨rfl, hb⟩))
  go_ret
  exact ⟨rfl, below3 ‹Below _ _ _›⟩

set_option maxHeartbeats 400000 in
theorem back_lo (W a n V k X G1 G2 G3 : Nat) (x : Int) (w : World)
  (c0 : ∀ w, Calls Try.prog 12 #[.int .u64 W, .int .i64 a, .int .i64 n, .int .u64 V] w fun e w' => e = .returned (.int .u64 X) ∧ w = w')
  (c1 : ∀ w, Calls Try.prog 9 #[.int .u64 X, .int .i64 k, .int .i64 1] w fun e w' => e = .returned (.int .u64 G1) ∧ ∃ m, w' = w.drewN m)
  (c2 : ∀ w, Calls Try.prog 9 #[.int .u64 W, .int .i64 k, .int .i64 1] w fun e w' => e = .returned (.int .u64 G1) ∧ ∃ m, w' = w.drewN m)
  (c3 : ∀ w, Calls Try.prog 9 #[.int .u64 X, .int .i64 a, .int .i64 n] w fun e w' => e = .returned (.int .u64 G2) ∧ ∃ m, w' = w.drewN m)
  (c4 : ∀ w, Calls Try.prog 9 #[.int .u64 V, .int .i64 0, .int .i64 n] w fun e w' => e = .returned (.int .u64 G2) ∧ ∃ m, w' = w.drewN m)
  (c5 : ∀ w, Calls Try.prog 9 #[.int .u64 W, .int .i64 a, .int .i64 n] w fun e w' => e = .returned (.int .u64 G3) ∧ ∃ m, w' = w.drewN m)
  (c6 : ∀ w, Calls Try.prog 12 #[.int .u64 X, .int .i64 a, .int .i64 n, .int .u64 G3] w fun e w' => e = .returned (.int .u64 W) ∧ w = w')
  (hx : wrap64 ((IntKind.u64.wrap x).tmod 64) = (k : Int)) (h1 : 1 ≤ n) (h2 : a + n ≤ 64)
    (h3 : k < a) :
    Calls Try.prog 8 #[.int .u64 W, .int .i64 a, .int .i64 n, .int .u64 V, .int .i64 x] w fun e w' => e = .returned (.bool true) ∧ Below w.heap.size w w' := by
  go_enter Try.func8, Try.ntmps8
  go_wp2_with (first
    | (go_at_call_of 12 (Value.int .u64 (V : Int)); refine (c0 _).mono ?_; rintro e w' ⟨rfl, rfl⟩)
    | (go_at_call_of 12 (Value.int .u64 (G3 : Int)); refine (c6 _).mono ?_; rintro e w' ⟨rfl, rfl⟩)
    | (go_at_call_of 9 (Value.int .u64 (X : Int)); go_at_call_of 9 (Value.int .i64 (k : Int)); refine (c1 _).mono ?_; rintro e w' ⟨rfl, m1, rfl⟩)
    | (go_at_call_of 9 (Value.int .u64 (W : Int)); go_at_call_of 9 (Value.int .i64 (k : Int)); refine (c2 _).mono ?_; rintro e w' ⟨rfl, m2, rfl⟩)
    | (go_at_call_of 9 (Value.int .u64 (X : Int)); refine (c3 _).mono ?_; rintro e w' ⟨rfl, m3, rfl⟩)
    | (go_at_call_of 9 (Value.int .u64 (V : Int)); refine (c4 _).mono ?_; rintro e w' ⟨rfl, m4, rfl⟩)
    | (go_at_call_of 9 (Value.int .u64 (W : Int)); refine (c5 _).mono ?_; rintro e w' ⟨rfl, m5, rfl⟩)
    | (go_at_call 11; refine (awake_any _).mono ?_; rintro e w' ⟨rfl, hb⟩))
  go_ret
  exact ⟨rfl, below3 ‹Below _ _ _›⟩

set_option maxHeartbeats 400000 in
theorem back_hi (W a n V k X G1 G2 G3 : Nat) (x : Int) (w : World)
  (c0 : ∀ w, Calls Try.prog 12 #[.int .u64 W, .int .i64 a, .int .i64 n, .int .u64 V] w fun e w' => e = .returned (.int .u64 X) ∧ w = w')
  (c1 : ∀ w, Calls Try.prog 9 #[.int .u64 X, .int .i64 k, .int .i64 1] w fun e w' => e = .returned (.int .u64 G1) ∧ ∃ m, w' = w.drewN m)
  (c2 : ∀ w, Calls Try.prog 9 #[.int .u64 W, .int .i64 k, .int .i64 1] w fun e w' => e = .returned (.int .u64 G1) ∧ ∃ m, w' = w.drewN m)
  (c3 : ∀ w, Calls Try.prog 9 #[.int .u64 X, .int .i64 a, .int .i64 n] w fun e w' => e = .returned (.int .u64 G2) ∧ ∃ m, w' = w.drewN m)
  (c4 : ∀ w, Calls Try.prog 9 #[.int .u64 V, .int .i64 0, .int .i64 n] w fun e w' => e = .returned (.int .u64 G2) ∧ ∃ m, w' = w.drewN m)
  (c5 : ∀ w, Calls Try.prog 9 #[.int .u64 W, .int .i64 a, .int .i64 n] w fun e w' => e = .returned (.int .u64 G3) ∧ ∃ m, w' = w.drewN m)
  (c6 : ∀ w, Calls Try.prog 12 #[.int .u64 X, .int .i64 a, .int .i64 n, .int .u64 G3] w fun e w' => e = .returned (.int .u64 W) ∧ w = w')
  (hx : wrap64 ((IntKind.u64.wrap x).tmod 64) = (k : Int)) (h1 : 1 ≤ n) (h2 : a + n ≤ 64)
    (h3 : a + n ≤ k) :
    Calls Try.prog 8 #[.int .u64 W, .int .i64 a, .int .i64 n, .int .u64 V, .int .i64 x] w fun e w' => e = .returned (.bool true) ∧ Below w.heap.size w w' := by
  go_enter Try.func8, Try.ntmps8
  go_wp2_with (first
    | (go_at_call_of 12 (Value.int .u64 (V : Int)); refine (c0 _).mono ?_; rintro e w' ⟨rfl, rfl⟩)
    | (go_at_call_of 12 (Value.int .u64 (G3 : Int)); refine (c6 _).mono ?_; rintro e w' ⟨rfl, rfl⟩)
    | (go_at_call_of 9 (Value.int .u64 (X : Int)); go_at_call_of 9 (Value.int .i64 (k : Int)); refine (c1 _).mono ?_; rintro e w' ⟨rfl, m1, rfl⟩)
    | (go_at_call_of 9 (Value.int .u64 (W : Int)); go_at_call_of 9 (Value.int .i64 (k : Int)); refine (c2 _).mono ?_; rintro e w' ⟨rfl, m2, rfl⟩)
    | (go_at_call_of 9 (Value.int .u64 (X : Int)); refine (c3 _).mono ?_; rintro e w' ⟨rfl, m3, rfl⟩)
    | (go_at_call_of 9 (Value.int .u64 (V : Int)); refine (c4 _).mono ?_; rintro e w' ⟨rfl, m4, rfl⟩)
    | (go_at_call_of 9 (Value.int .u64 (W : Int)); refine (c5 _).mono ?_; rintro e w' ⟨rfl, m5, rfl⟩)
    | (go_at_call 11; refine (awake_any _).mono ?_; rintro e w' ⟨rfl, hb⟩))
  go_ret
  exact ⟨rfl, below3 ‹Below _ _ _›⟩

set_option maxHeartbeats 400000 in
theorem back_no1 (W V k : Nat) (a n x : Int) (w : World)
  (c0 : ∀ w, Calls Try.prog 12 #[.int .u64 W, .int .i64 a, .int .i64 n, .int .u64 V] w fun e w' => e = .returned (.int .u64 W) ∧ w = w')
  (hx : wrap64 ((IntKind.u64.wrap x).tmod 64) = (k : Int))
    (h : n < 1) :
    Calls Try.prog 8 #[.int .u64 W, .int .i64 a, .int .i64 n, .int .u64 V, .int .i64 x] w fun e w' => e = .returned (.bool true) ∧ Below w.heap.size w w' := by
  go_enter Try.func8, Try.ntmps8
  go_wp2_with (first
    | (go_at_call 12; refine (c0 _).mono ?_; rintro e w' ⟨rfl, rfl⟩)
    | (go_at_call 11; refine (awake_any _).mono ?_; rintro e w' ⟨rfl, hb⟩))
  go_ret
  exact ⟨rfl, ‹Below _ _ _›⟩

set_option maxHeartbeats 400000 in
theorem back_no2 (W V k : Nat) (a n x : Int) (w : World)
  (c0 : ∀ w, Calls Try.prog 12 #[.int .u64 W, .int .i64 a, .int .i64 n, .int .u64 V] w fun e w' => e = .returned (.int .u64 W) ∧ w = w')
  (hx : wrap64 ((IntKind.u64.wrap x).tmod 64) = (k : Int))
    (h : 64 < n) :
    Calls Try.prog 8 #[.int .u64 W, .int .i64 a, .int .i64 n, .int .u64 V, .int .i64 x] w fun e w' => e = .returned (.bool true) ∧ Below w.heap.size w w' := by
  go_enter Try.func8, Try.ntmps8
  go_wp2_with (first
    | (go_at_call 12; refine (c0 _).mono ?_; rintro e w' ⟨rfl, rfl⟩)
    | (go_at_call 11; refine (awake_any _).mono ?_; rintro e w' ⟨rfl, hb⟩))
  go_ret
  exact ⟨rfl, ‹Below _ _ _›⟩

set_option maxHeartbeats 400000 in
theorem back_no3 (W V k : Nat) (a n x : Int) (w : World)
  (c0 : ∀ w, Calls Try.prog 12 #[.int .u64 W, .int .i64 a, .int .i64 n, .int .u64 V] w fun e w' => e = .returned (.int .u64 W) ∧ w = w')
  (hx : wrap64 ((IntKind.u64.wrap x).tmod 64) = (k : Int))
    (h : 1 ≤ n) (h' : n ≤ 64) (h3 : a < 0) :
    Calls Try.prog 8 #[.int .u64 W, .int .i64 a, .int .i64 n, .int .u64 V, .int .i64 x] w fun e w' => e = .returned (.bool true) ∧ Below w.heap.size w w' := by
  go_enter Try.func8, Try.ntmps8
  go_wp2_with (first
    | (go_at_call 12; refine (c0 _).mono ?_; rintro e w' ⟨rfl, rfl⟩)
    | (go_at_call 11; refine (awake_any _).mono ?_; rintro e w' ⟨rfl, hb⟩))
  go_ret
  exact ⟨rfl, ‹Below _ _ _›⟩

set_option maxHeartbeats 400000 in
theorem back_no4 (W V k : Nat) (a n x : Int) (w : World)
  (c0 : ∀ w, Calls Try.prog 12 #[.int .u64 W, .int .i64 a, .int .i64 n, .int .u64 V] w fun e w' => e = .returned (.int .u64 W) ∧ w = w')
  (hx : wrap64 ((IntKind.u64.wrap x).tmod 64) = (k : Int))
    (h : 1 ≤ n) (h' : n ≤ 64) (h3 : 0 ≤ a) (h4 : 64 - n < a) :
    Calls Try.prog 8 #[.int .u64 W, .int .i64 a, .int .i64 n, .int .u64 V, .int .i64 x] w fun e w' => e = .returned (.bool true) ∧ Below w.heap.size w w' := by
  go_enter Try.func8, Try.ntmps8
  go_wp2_with (first
    | (go_at_call 12; refine (c0 _).mono ?_; rintro e w' ⟨rfl, rfl⟩)
    | (go_at_call 11; refine (awake_any _).mono ?_; rintro e w' ⟨rfl, hb⟩))
  go_ret
  exact ⟨rfl, ‹Below _ _ _›⟩
end Go.Proofs.Yteeocnknocoefaa
