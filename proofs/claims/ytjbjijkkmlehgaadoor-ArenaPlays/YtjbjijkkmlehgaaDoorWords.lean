/- Contracts of word.Get, word.Set, word.Fits and of the reference's Get, Set, Fits. -/
import Derived.Test.YtjbjijkkmlehgaaDoorBase
import Derived.Test.YtjbjijkkmlehgaaDoorBits
import Derived.Deep.QuietTactic
import Derived.Deep.Draws
import Derived.Deep.RegionWith
namespace Go.Proofs.YtjbjijkkmlehgaaDoor.Tg
open Go.RowKit

set_option maxHeartbeats 400000 in
theorem get_no (W : Nat) (a n : Int) (ha : -9223372036854775808 ≤ a ∧ a ≤ 9223372036854775807) (hn : -9223372036854775808 ≤ n ∧ n ≤ 9223372036854775807) (h : isSome a n = false) (w : World) :
    Calls Tryd.prog 68 #[.int .u64 W, .int .i64 a, .int .i64 n] w fun e w' => e = .returned (.int .u64 0) ∧ w = w' := by
  go_enter Tryd.func68, Tryd.ntmps68
  go_wp2_with (go_at_call 83; refine (some_any a n ha hn _).mono ?_; rintro e w' ⟨rfl, rfl⟩)
  go_ret
  exact ⟨rfl, rfl⟩

theorem low_same (n : Nat) (h1 : 1 ≤ n) (h2 : n ≤ 64) (w : World) :
    Calls Tryd.prog 84 #[.int .i64 n] w fun e w' => e = .returned (.int .u64 ((2 ^ n - 1 : Nat) : Int)) ∧ w' = w :=
  (low_any n h1 h2 w).mono fun _ _ ⟨he, hw⟩ => ⟨he, hw.symm⟩

set_option maxHeartbeats 400000 in
theorem get_yes (W a n : Nat) (hW : W < 18446744073709551616) (h1 : 1 ≤ n) (h2 : a + n ≤ 64) (w : World) :
    Calls Tryd.prog 68 #[.int .u64 W, .int .i64 a, .int .i64 n] w fun e w' => e = .returned (.int .u64 ((getN W a n : Nat) : Int)) ∧ ∃ m, w' = w.drewN m := by
  have hs : isSome a n = true := (isSome_iff _ _).2 (by omega)
  have hn : n ≤ 64 := by omega
  go_enter Tryd.func68, Tryd.ntmps68
  go_wp2_with (go_at_call 83; refine (some_any a n (by omega) (by omega) _).mono ?_; rintro e w' ⟨rfl, rfl⟩)
  go_quiet (exact Calls.quiet_of_same (low_same n h1 hn _))
  go_wp2
  go_ret
  exact ⟨congrArg (fun b => Ending.returned (Value.int .u64 b)) (get_z W a n hW (by omega)), _, rfl⟩

set_option maxHeartbeats 400000 in
theorem fits_no (V : Nat) (n : Int) (h : n < 0) (w : World) :
    Calls Tryd.prog 91 #[.int .u64 V, .int .i64 n] w fun e w' => e = .returned (.bool false) ∧ w = w' := by
  go_enter Tryd.func91, Tryd.ntmps91
  go_wp2
  go_ret
  exact ⟨rfl, rfl⟩

set_option maxHeartbeats 400000 in
theorem fits_yes (V n : Nat) (hV : V < 18446744073709551616) (_hn : n ≤ 9223372036854775807) (w : World) :
    Calls Tryd.prog 91 #[.int .u64 V, .int .i64 n] w fun e w' => e = .returned (.bool (decide (V < 2 ^ n))) ∧ w = w' := by
  go_enter Tryd.func91, Tryd.ntmps91
  go_wp2
  go_ret
  exact ⟨congrArg (fun b => Ending.returned (Value.bool b)) (fits_z V n hV), rfl⟩

theorem rfits_z2 (V n : Nat) (h : n ≤ 63) : (decide ((63 : Int) < n) || decide ((V : Int) < 2 ^ n)) = decide (V < 2 ^ n) := by
  have : ¬ (63 : Int) < n := by omega
  rw [rfits_z]
  simp [this]

theorem rfits_z3 (V n : Nat) (hV : V < 18446744073709551616) (h : ¬ n ≤ 63) : true = decide (V < 2 ^ n) := by
  have : 2 ^ 64 ≤ 2 ^ n := Nat.pow_le_pow_right (by omega) (by omega)
  exact (decide_eq_true (by omega)).symm

set_option maxHeartbeats 400000 in
theorem set_no (W V : Nat) (a n : Int) (ha : -9223372036854775808 ≤ a ∧ a ≤ 9223372036854775807) (hn : -9223372036854775808 ≤ n ∧ n ≤ 9223372036854775807) (h : isSome a n = false) (w : World) :
    Calls Tryd.prog 92 #[.int .u64 W, .int .i64 a, .int .i64 n, .int .u64 V] w fun e w' => e = .returned (.int .u64 W) ∧ w = w' := by
  go_enter Tryd.func92, Tryd.ntmps92
  go_wp2_with (go_at_call 83; refine (some_any a n ha hn _).mono ?_; rintro e w' ⟨rfl, rfl⟩)
  go_ret
  exact ⟨rfl, rfl⟩

set_option maxHeartbeats 400000 in
theorem set_yes (W a n V : Nat) (hW : W < 18446744073709551616) (_hV : V < 18446744073709551616) (h1 : 1 ≤ n) (h2 : a + n ≤ 64) (w : World) :
    Calls Tryd.prog 92 #[.int .u64 W, .int .i64 a, .int .i64 n, .int .u64 V] w fun e w' => e = .returned (.int .u64 ((setN W a n V : Nat) : Int)) ∧ w = w' := by
  have hs : isSome a n = true := (isSome_iff _ _).2 (by omega)
  go_enter Tryd.func92, Tryd.ntmps92
  go_wp2_with (first
    | (go_at_call 83; refine (some_any a n (by omega) (by omega) _).mono ?_; rintro e w' ⟨rfl, rfl⟩)
    | (go_at_call 84; refine (low_any n h1 (by omega) _).mono ?_; rintro e w' ⟨rfl, rfl⟩))
  go_ret
  exact ⟨congrArg (fun b => Ending.returned (Value.int .u64 b)) (set_z W a n V hW h2), rfl⟩

theorem wrap_add (X Y : Nat) (h : X + Y < 18446744073709551616) : IntKind.u64.wrap ((X : Int) + (Y : Int)) = ((X + Y : Nat) : Int) := by
  rw [IntKind.wrap_u64]; omega

theorem bitsOf_step_yes {f : Nat → Bool} {k : Nat} (h : f k = true) : bitsOf f k + 2 ^ k = bitsOf f (k + 1) := by simp [bitsOf, h]
theorem bitsOf_step_no {f : Nat → Bool} {k : Nat} (h : f k = false) : bitsOf f k = bitsOf f (k + 1) := by simp [bitsOf, h]

def setBit (W a n V i : Nat) : Bool := if a ≤ i ∧ i < a + n then V.testBit (i - a) else W.testBit i

theorem acc_yes {f : Nat → Bool} {X k : Nat} (hk : k ≤ 63) (hX : Hid (X = bitsOf f k)) (hf : f k = true) :
    ∃ k' : Nat, k' ≤ 64 ∧ Value.int .i64 ((k : Int) + 1) = Value.int .i64 k' ∧ ∃ X' : Nat, Value.int .u64 (IntKind.u64.wrap ((X : Int) + 2 ^ k)) = Value.int .u64 X' ∧ Hid (X' = bitsOf f k') := by
  have hb : X < 2 ^ k := by rw [hX.out]; exact bitsOf_lt _ _
  have hp : 2 ^ k ≤ 2 ^ 63 := pow_lt hk
  refine ⟨k + 1, by omega, by go_num, X + 2 ^ k, ?_, ?_⟩
  · have e := wrap_add X (2 ^ k) (by omega)
    rw [← e]; simp
  · show X + 2 ^ k = _
    rw [hX.out]; exact bitsOf_step_yes hf

theorem acc_no {f : Nat → Bool} {X k : Nat} (hk : k ≤ 63) (hX : Hid (X = bitsOf f k)) (hf : f k = false) :
    ∃ k' : Nat, k' ≤ 64 ∧ Value.int .i64 ((k : Int) + 1) = Value.int .i64 k' ∧ ∃ X' : Nat, Value.int .u64 (X : Int) = Value.int .u64 X' ∧ Hid (X' = bitsOf f k') :=
  ⟨k + 1, by omega, by go_num, X, rfl, hX.out.trans (bitsOf_step_no hf)⟩

end Go.Proofs.YtjbjijkkmlehgaaDoor.Tg
