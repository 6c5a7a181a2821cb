/- Contracts of the small callees of package word and of its reference: 'some', 'Some', 'low', 'Power', 'Bit', 'Fits'. -/
import Derived.Test.YtcioomopgdhlmaaGreatDoorRows
import Derived.WalkKit
import Derived.WalkSpells
import Derived.WalkLawsBesides
import Derived.Laws.BitsAllLaws
import Derived.OpenShut
import Derived.Deep.QuietTactic
import Derived.Deep.Draws
import Derived.Deep.RegionWith
namespace Go.Proofs.YtcioomopgdhlmaaGreatDoor.Hh
open Go.RowKit

def isSome (a n : Int) : Bool := decide (1 ≤ n) && decide (0 ≤ a) && decide (a ≤ 64 - n)

theorem isSome_iff (a n : Int) : isSome a n = true ↔ 1 ≤ n ∧ 0 ≤ a ∧ a ≤ 64 - n := by
  simp [isSome, and_assoc]

theorem isSome_eq {a n : Int} {p : Prop} [Decidable p] (h : p ↔ 1 ≤ n ∧ 0 ≤ a ∧ a ≤ 64 - n) : decide p = isSome a n := by
  have h2 := isSome_iff a n
  by_cases hp : p
  · rw [h2.2 (h.1 hp)]; simpa using hp
  · have : ¬ isSome a n = true := fun k => hp (h.2 (h2.1 k))
    rw [Bool.eq_false_iff.2 this]; simpa using hp

theorem isSome_no {a n : Int} (h : ¬ (1 ≤ n ∧ 0 ≤ a ∧ a ≤ 64 - n)) : false = isSome a n := by
  cases e : isSome a n
  · rfl
  · exact absurd ((isSome_iff a n).1 e) h

theorem u64_nat {a : Int} (h : (Lit.int .u64 a).wf = true) : ∃ A : Nat, a = (A : Int) ∧ A < 18446744073709551616 := by
  have := bounds_u64 h
  exact ⟨a.toNat, by omega, by omega⟩

set_option maxHeartbeats 400000 in
theorem some_any (a n : Int) (ha : -9223372036854775808 ≤ a ∧ a ≤ 9223372036854775807) (hn : -9223372036854775808 ≤ n ∧ n ≤ 9223372036854775807) (w : World) :
    Calls Tryz.prog 96 #[.int .i64 a, .int .i64 n] w fun e w' => e = .returned (.bool (isSome a n)) ∧ w = w' := by
  go_enter Tryz.func96, Tryz.ntmps96
  go_wp2
  all_goals go_ret
  · exact ⟨congrArg (fun b => Ending.returned (Value.bool b)) (isSome_eq (a := a) (n := n) (p := a ≤ 64 - n) (by omega)), rfl⟩
  · exact ⟨congrArg (fun b => Ending.returned (Value.bool b)) (isSome_no (a := a) (n := n) (by omega)), rfl⟩
  · exact ⟨congrArg (fun b => Ending.returned (Value.bool b)) (isSome_no (a := a) (n := n) (by omega)), rfl⟩

theorem low_eq (n : Nat) (h2 : n ≤ 64) : (18446744073709551615 : Int) / 2 ^ (64 - n) = ((2 ^ n - 1 : Nat) : Int) := by
  have e : (2:Nat) ^ 64 = 2 ^ n * 2 ^ (64 - n) := by rw [← Nat.pow_add]; congr 1; omega
  have hp : 0 < 2 ^ (64 - n) := Nat.pow_pos (by omega)
  have hn : 0 < 2 ^ n := Nat.pow_pos (by omega)
  have k : 18446744073709551615 / 2 ^ (64 - n) = 2 ^ n - 1 := by
    have e2 : 18446744073709551615 = (2 ^ n - 1) * 2 ^ (64 - n) + (2 ^ (64 - n) - 1) := by
      rw [Nat.sub_mul]
      have : 2 ^ (64 - n) ≤ 2 ^ n * 2 ^ (64 - n) := Nat.le_mul_of_pos_left _ hn
      omega
    rw [e2, Nat.mul_comm, Nat.mul_add_div hp, Nat.div_eq_of_lt (by omega)]; omega
  rw [← k]; simp

set_option maxHeartbeats 400000 in
theorem low_any (n : Nat) (h1 : 1 ≤ n) (h2 : n ≤ 64) (w : World) :
    Calls Tryz.prog 97 #[.int .i64 n] w fun e w' => e = .returned (.int .u64 ((2 ^ n - 1 : Nat) : Int)) ∧ w = w' := by
  go_enter Tryz.func97, Tryz.ntmps97
  go_wp2
  go_ret
  exact ⟨congrArg (fun b => Ending.returned (Value.int .u64 b)) (low_eq n h2), rfl⟩

theorem pow_lt {k n : Nat} (h : k ≤ n) : 2 ^ k ≤ 2 ^ n := Nat.pow_le_pow_right (by omega) h

theorem testBit_eq (W k : Nat) : decide (W / 2 ^ k % 2 = 1) = W.testBit k := by
  rw [Nat.testBit_eq_decide_div_mod_eq]

theorem odd_eq (V : Nat) : ((V : Int) % 2 == 1) = decide (V % 2 = 1) := by
  by_cases h : V % 2 = 1
  · have : (V : Int) % 2 = 1 := by omega
    simp [h, this]
  · have : ¬ (V : Int) % 2 = 1 := by omega
    simp [h, this]

end Go.Proofs.YtcioomopgdhlmaaGreatDoor.Hh
/- Plain facts on natural numbers and their bits: no Go in sight. -/
namespace Go.Proofs.YtcioomopgdhlmaaGreatDoor.Hh

/-- The number of which bit i, below m, is set just if f says so. -/
def bitsOf (f : Nat → Bool) : Nat → Nat
  | 0 => 0
  | m + 1 => bitsOf f m + (if f m then 2 ^ m else 0)

theorem bitsOf_lt (f : Nat → Bool) (m : Nat) : bitsOf f m < 2 ^ m := by
  induction m with
  | zero => simp [bitsOf]
  | succ m ih =>
    simp only [bitsOf, Nat.pow_succ]
    split <;> omega

theorem testBit_bitsOf (f : Nat → Bool) (m i : Nat) : (bitsOf f m).testBit i = (decide (i < m) && f i) := by
  induction m with
  | zero => simp [bitsOf]
  | succ m ih =>
    have hlt := bitsOf_lt f m
    simp only [bitsOf]
    by_cases hf : f m = true
    · rw [if_pos hf, Nat.add_comm]
      rcases Nat.lt_trichotomy i m with h | h | h
      · rw [Nat.testBit_two_pow_add_gt h, ih]
        simp [h, Nat.lt_succ_of_lt h]
      · subst h
        rw [Nat.testBit_two_pow_add_eq, ih]
        simp [hf]
      · have h3 : 2 ^ m + bitsOf f m < 2 ^ i := by
          have : 2 ^ (m + 1) ≤ 2 ^ i := Nat.pow_le_pow_right (by omega) h
          rw [Nat.pow_succ] at this
          omega
        rw [Nat.testBit_lt_two_pow h3]
        have : ¬ i < m + 1 := by omega
        simp [this]
    · rw [if_neg hf, Nat.add_zero, ih]
      by_cases h : i = m
      · subst h
        simp [hf]
      · have : (i < m + 1) ↔ (i < m) := by omega
        simp [this]

def getN (W a n : Nat) : Nat := W / 2 ^ a % 2 ^ n

theorem testBit_getN (W a n i : Nat) : (getN W a n).testBit i = (decide (i < n) && W.testBit (a + i)) := by
  rw [getN, Nat.testBit_mod_two_pow, Nat.testBit_div_two_pow, Nat.add_comm]

theorem getN_eq (W a n : Nat) : bitsOf (fun i => W.testBit (a + i)) n = getN W a n := by
  apply Nat.eq_of_testBit_eq
  intro i
  rw [testBit_bitsOf, testBit_getN]

theorem getN_lt (W a n : Nat) (h : n ≤ 64) : getN W a n < 18446744073709551616 := by
  have h1 : getN W a n < 2 ^ n := Nat.mod_lt _ (Nat.pow_pos (by omega))
  have h2 : 2 ^ n ≤ 2 ^ 64 := Nat.pow_le_pow_right (by omega) h
  omega

def setN (W a n V : Nat) : Nat := bitsOf (fun i => if a ≤ i ∧ i < a + n then V.testBit (i - a) else W.testBit i) 64

theorem setN_lt (W a n V : Nat) : setN W a n V < 18446744073709551616 := bitsOf_lt _ 64

theorem mask_eq (W a n : Nat) : (W / 2 ^ a) &&& (2 ^ n - 1) = getN W a n := by
  rw [Nat.and_two_pow_sub_one_eq_mod, getN]

theorem maskShift_lt (a n : Nat) (h : a + n ≤ 64) : (2 ^ n - 1) * 2 ^ a < 18446744073709551616 := by
  have h1 : 2 ^ n * 2 ^ a ≤ 2 ^ 64 := by rw [← Nat.pow_add]; exact Nat.pow_le_pow_right (by omega) (by omega)
  have h2 : 0 < 2 ^ a := Nat.pow_pos (by omega)
  rw [Nat.sub_mul]
  omega

theorem setN_eq (W a n V : Nat) (hW : W < 18446744073709551616) (h : a + n ≤ 64) :
    (W &&& (18446744073709551615 - (2 ^ n - 1) * 2 ^ a)) ||| ((V * 2 ^ a % 18446744073709551616) &&& ((2 ^ n - 1) * 2 ^ a)) = setN W a n V := by
  have hm := maskShift_lt a n h
  have e1 : 18446744073709551615 - (2 ^ n - 1) * 2 ^ a = 2 ^ 64 - ((2 ^ n - 1) * 2 ^ a + 1) := by omega
  have e2 : (18446744073709551616 : Nat) = 2 ^ 64 := by decide
  apply Nat.eq_of_testBit_eq
  intro i
  have hbW : 64 ≤ i → W.testBit i = false := fun hi => Nat.testBit_lt_two_pow (Nat.lt_of_lt_of_le hW (Nat.pow_le_pow_right (n := 2) (i := 64) (by omega) hi))
  rw [e1, e2, Nat.testBit_or, Nat.testBit_and, Nat.testBit_and, Nat.testBit_two_pow_sub_succ (by omega), Nat.testBit_mod_two_pow, Nat.testBit_mul_two_pow, Nat.testBit_mul_two_pow, Nat.testBit_two_pow_sub_one, setN, testBit_bitsOf]
  by_cases h1 : a ≤ i
  · by_cases h2 : i < a + n
    · have h3 : i - a < n := by omega
      have h4 : i < 64 := by omega
      simp [h1, h2, h3, h4]
    · have h3 : ¬ i - a < n := by omega
      by_cases h4 : i < 64
      · simp [h1, h2, h3, h4]
      · simp [h1, h2, h3, h4, hbW (by omega)]
  · have h4 : i < 64 := by omega
    simp [h1, h4]

theorem get_z (W a n : Nat) (hW : W < 18446744073709551616) (h : n ≤ 64) : bits .and .u64 ((W : Int) / 2 ^ a) ((2 ^ n - 1 : Nat) : Int) = ((getN W a n : Nat) : Int) := by
  have e : ((W : Int) / 2 ^ a) = ((W / 2 ^ a : Nat) : Int) := by simp
  have h2 : 2 ^ n ≤ 2 ^ 64 := Nat.pow_le_pow_right (by omega) h
  rw [e, u64_and_nat _ _ (Nat.lt_of_le_of_lt (Nat.div_le_self _ _) hW) (by omega), mask_eq]

theorem set_z (W a n V : Nat) (hW : W < 18446744073709551616) (h : a + n ≤ 64) :
    bits .or .u64 (bits .andNot .u64 (W : Int) (IntKind.u64.wrap (((2 ^ n - 1 : Nat) : Int) * 2 ^ a))) (bits .and .u64 (IntKind.u64.wrap ((V : Int) * 2 ^ a)) (IntKind.u64.wrap (((2 ^ n - 1 : Nat) : Int) * 2 ^ a)))
      = ((setN W a n V : Nat) : Int) := by
  have hm := maskShift_lt a n h
  have e1 : IntKind.u64.wrap (((2 ^ n - 1 : Nat) : Int) * 2 ^ a) = (((2 ^ n - 1) * 2 ^ a : Nat) : Int) := by
    have : (((2 ^ n - 1 : Nat) : Int) * 2 ^ a) = (((2 ^ n - 1) * 2 ^ a : Nat) : Int) := by simp
    rw [IntKind.wrap_u64, this]
    omega
  have e2 : IntKind.u64.wrap ((V : Int) * 2 ^ a) = ((V * 2 ^ a % 18446744073709551616 : Nat) : Int) := by
    rw [IntKind.wrap_u64]; simp
  have l1 : W &&& (18446744073709551615 - (2 ^ n - 1) * 2 ^ a) < 18446744073709551616 := Nat.lt_of_le_of_lt Nat.and_le_left hW
  have l2 : V * 2 ^ a % 18446744073709551616 &&& (2 ^ n - 1) * 2 ^ a < 18446744073709551616 := Nat.lt_of_le_of_lt Nat.and_le_right hm
  rw [e1, e2, u64_andNot_nat _ _ hW hm, u64_and_nat _ _ (Nat.mod_lt _ (by omega)) hm, u64_or_nat _ _ l1 l2, setN_eq W a n V hW h]

theorem fits_z (V n : Nat) (hV : V < 18446744073709551616) : ((V : Int) / 2 ^ min n 64 == 0) = decide (V < 2 ^ n) := by
  have e : ((V : Int) / 2 ^ min n 64) = ((V / 2 ^ min n 64 : Nat) : Int) := by simp
  have h0 : 0 < 2 ^ min n 64 := Nat.pow_pos (by omega)
  have k : V / 2 ^ min n 64 = 0 ↔ V < 2 ^ n := by
    rw [Nat.div_eq_zero_iff]
    by_cases h : n ≤ 64
    · rw [Nat.min_eq_left h]
      have := Nat.pow_pos (a := 2) (n := n) (by omega)
      omega
    · have : 2 ^ 64 ≤ 2 ^ n := Nat.pow_le_pow_right (by omega) (by omega)
      rw [Nat.min_eq_right (by omega)]
      omega
  rw [e]
  by_cases h : V < 2 ^ n
  · simp only [k.2 h, h, decide_true]; rfl
  · have : ¬ V / 2 ^ min n 64 = 0 := fun c => h (k.1 c)
    simp only [h, decide_false]
    rw [beq_eq_false_iff_ne]
    omega

theorem rfits_z (V n : Nat) : decide ((V : Int) < 2 ^ n) = decide (V < 2 ^ n) := by
  have e : ((2 : Int) ^ n) = ((2 ^ n : Nat) : Int) := by simp
  rw [e]
  congr 1
  exact propext Int.ofNat_lt

end Go.Proofs.YtcioomopgdhlmaaGreatDoor.Hh
/- Contracts of word.Get, word.Set, word.Fits and of the reference's Get, Set, Fits. -/
namespace Go.Proofs.YtcioomopgdhlmaaGreatDoor.Hh
open Go.RowKit

set_option maxHeartbeats 400000 in
theorem get_no (W : Nat) (a n : Int) (ha : -9223372036854775808 ≤ a ∧ a ≤ 9223372036854775807) (hn : -9223372036854775808 ≤ n ∧ n ≤ 9223372036854775807) (h : isSome a n = false) (w : World) :
    Calls Tryz.prog 74 #[.int .u64 W, .int .i64 a, .int .i64 n] w fun e w' => e = .returned (.int .u64 0) ∧ w = w' := by
  go_enter Tryz.func74, Tryz.ntmps74
  go_wp2_with (go_at_call 96; refine (some_any a n ha hn _).mono ?_; rintro e w' ⟨rfl, rfl⟩)
  go_ret
  exact ⟨rfl, rfl⟩

theorem low_same (n : Nat) (h1 : 1 ≤ n) (h2 : n ≤ 64) (w : World) :
    Calls Tryz.prog 97 #[.int .i64 n] w fun e w' => e = .returned (.int .u64 ((2 ^ n - 1 : Nat) : Int)) ∧ w' = w :=
  (low_any n h1 h2 w).mono fun _ _ ⟨he, hw⟩ => ⟨he, hw.symm⟩

set_option maxHeartbeats 400000 in
theorem get_yes (W a n : Nat) (hW : W < 18446744073709551616) (h1 : 1 ≤ n) (h2 : a + n ≤ 64) (w : World) :
    Calls Tryz.prog 74 #[.int .u64 W, .int .i64 a, .int .i64 n] w fun e w' => e = .returned (.int .u64 ((getN W a n : Nat) : Int)) ∧ ∃ m, w' = w.drewN m := by
  have hs : isSome a n = true := (isSome_iff _ _).2 (by omega)
  have hn : n ≤ 64 := by omega
  go_enter Tryz.func74, Tryz.ntmps74
  go_wp2_with (go_at_call 96; refine (some_any a n (by omega) (by omega) _).mono ?_; rintro e w' ⟨rfl, rfl⟩)
  go_quiet (exact Calls.quiet_of_same (low_same n h1 hn _))
  go_wp2
  go_ret
  exact ⟨congrArg (fun b => Ending.returned (Value.int .u64 b)) (get_z W a n hW (by omega)), _, rfl⟩

set_option maxHeartbeats 400000 in
theorem fits_no (V : Nat) (n : Int) (h : n < 0) (w : World) :
    Calls Tryz.prog 98 #[.int .u64 V, .int .i64 n] w fun e w' => e = .returned (.bool false) ∧ w = w' := by
  go_enter Tryz.func98, Tryz.ntmps98
  go_wp2
  go_ret
  exact ⟨rfl, rfl⟩

set_option maxHeartbeats 400000 in
theorem fits_yes (V n : Nat) (hV : V < 18446744073709551616) (_hn : n ≤ 9223372036854775807) (w : World) :
    Calls Tryz.prog 98 #[.int .u64 V, .int .i64 n] w fun e w' => e = .returned (.bool (decide (V < 2 ^ n))) ∧ w = w' := by
  go_enter Tryz.func98, Tryz.ntmps98
  go_wp2
  go_ret
  exact ⟨congrArg (fun b => Ending.returned (Value.bool b)) (fits_z V n hV), rfl⟩

theorem rfits_z2 (V n : Nat) (h : n ≤ 63) : (decide ((63 : Int) < n) || decide ((V : Int) < 2 ^ n)) = decide (V < 2 ^ n) := by
  have : ¬ (63 : Int) < n := by omega
  rw [rfits_z]
  simp [this]

theorem rfits_z3 (V n : Nat) (hV : V < 18446744073709551616) (h : ¬ n ≤ 63) : true = decide (V < 2 ^ n) := by
  have : 2 ^ 64 ≤ 2 ^ n := Nat.pow_le_pow_right (by omega) (by omega)
  exact (decide_eq_true (by omega)).symm

set_option maxHeartbeats 400000 in
theorem set_no (W V : Nat) (a n : Int) (ha : -9223372036854775808 ≤ a ∧ a ≤ 9223372036854775807) (hn : -9223372036854775808 ≤ n ∧ n ≤ 9223372036854775807) (h : isSome a n = false) (w : World) :
    Calls Tryz.prog 99 #[.int .u64 W, .int .i64 a, .int .i64 n, .int .u64 V] w fun e w' => e = .returned (.int .u64 W) ∧ w = w' := by
  go_enter Tryz.func99, Tryz.ntmps99
  go_wp2_with (go_at_call 96; refine (some_any a n ha hn _).mono ?_; rintro e w' ⟨rfl, rfl⟩)
  go_ret
  exact ⟨rfl, rfl⟩

set_option maxHeartbeats 400000 in
theorem set_yes (W a n V : Nat) (hW : W < 18446744073709551616) (_hV : V < 18446744073709551616) (h1 : 1 ≤ n) (h2 : a + n ≤ 64) (w : World) :
    Calls Tryz.prog 99 #[.int .u64 W, .int .i64 a, .int .i64 n, .int .u64 V] w fun e w' => e = .returned (.int .u64 ((setN W a n V : Nat) : Int)) ∧ w = w' := by
  have hs : isSome a n = true := (isSome_iff _ _).2 (by omega)
  go_enter Tryz.func99, Tryz.ntmps99
  go_wp2_with (first
    | (go_at_call 96; refine (some_any a n (by omega) (by omega) _).mono ?_; rintro e w' ⟨rfl, rfl⟩)
    | (go_at_call 97; refine (low_any n h1 (by omega) _).mono ?_; rintro e w' ⟨rfl, rfl⟩))
  go_ret
  exact ⟨congrArg (fun b => Ending.returned (Value.int .u64 b)) (set_z W a n V hW h2), rfl⟩

theorem wrap_add (X Y : Nat) (h : X + Y < 18446744073709551616) : IntKind.u64.wrap ((X : Int) + (Y : Int)) = ((X + Y : Nat) : Int) := by
  rw [IntKind.wrap_u64]; omega

theorem bitsOf_step_yes {f : Nat → Bool} {k : Nat} (h : f k = true) : bitsOf f k + 2 ^ k = bitsOf f (k + 1) := by simp [bitsOf, h]
theorem bitsOf_step_no {f : Nat → Bool} {k : Nat} (h : f k = false) : bitsOf f k = bitsOf f (k + 1) := by simp [bitsOf, h]

def setBit (W a n V i : Nat) : Bool := if a ≤ i ∧ i < a + n then V.testBit (i - a) else W.testBit i

theorem acc_yes {f : Nat → Bool} {X k : Nat} (hk : k ≤ 63) (hX : Hid (X = bitsOf f k)) (hf : f k = true) :
    ∃ k' : Nat, k' ≤ 64 ∧ Value.int .i64 ((k : Int) + 1) = Value.int .i64 k' ∧ ∃ X' : Nat, Value.int .u64 (IntKind.u64.wrap ((X : Int) + 2 ^ k)) = Value.int .u64 X' ∧ Hid (X' = bitsOf f k') := by
  have hb : X < 2 ^ k := by rw [hX.out]; exact bitsOf_lt _ _
  have hp : 2 ^ k ≤ 2 ^ 63 := pow_lt hk
  refine ⟨k + 1, by omega, by go_num, X + 2 ^ k, ?_, ?_⟩
  · have e := wrap_add X (2 ^ k) (by omega)
    rw [← e]; simp
  · show X + 2 ^ k = _
    rw [hX.out]; exact bitsOf_step_yes hf

theorem acc_no {f : Nat → Bool} {X k : Nat} (hk : k ≤ 63) (hX : Hid (X = bitsOf f k)) (hf : f k = false) :
    ∃ k' : Nat, k' ≤ 64 ∧ Value.int .i64 ((k : Int) + 1) = Value.int .i64 k' ∧ ∃ X' : Nat, Value.int .u64 (X : Int) = Value.int .u64 X' ∧ Hid (X' = bitsOf f k') :=
  ⟨k + 1, by omega, by go_num, X, rfl, hX.out.trans (bitsOf_step_no hf)⟩

end Go.Proofs.YtcioomopgdhlmaaGreatDoor.Hh
/- Contract of word.Pack over a slice of pairs. -/
namespace Go.Proofs.YtcioomopgdhlmaaGreatDoor.Hh
open Go.RowKit

/-- What k values come to: the word and how many bits of it are taken; or nothing. -/
def packSt (N : Nat → Int) (V : Nat → Nat) : Nat → Option (Nat × Nat)
  | 0 => some (0, 0)
  | k + 1 => match packSt N V k with
    | none => none
    | some (W, a) => if isSome a (N k) = true ∧ V k < 2 ^ (N k).toNat then some (setN W a (N k).toNat (V k), a + (N k).toNat) else none

theorem packSt_none {N : Nat → Int} {V : Nat → Nat} {k : Nat} (h : packSt N V k = none) (m : Nat) (hm : k ≤ m) : packSt N V m = none := by
  induction m with
  | zero => have : k = 0 := by omega
            subst this; exact h
  | succ m ih =>
    by_cases hk : k = m + 1
    · subst hk; exact h
    · rw [packSt, ih (by omega)]

theorem packSt_bounds {N : Nat → Int} {V : Nat → Nat} {k W a : Nat} (h : packSt N V k = some (W, a)) : W < 18446744073709551616 ∧ a ≤ 64 := by
  cases k with
  | zero => simp [packSt] at h; omega
  | succ k =>
    rw [packSt] at h
    split at h
    · cases h
    · rename_i W' a' h'
      split at h
      · rename_i hc
        simp only [Option.some.injEq, Prod.mk.injEq] at h
        have := (isSome_iff _ _).1 hc.1
        have := setN_lt W' a' (N k).toNat (V k)
        omega
      · cases h

theorem packSt_step {N : Nat → Int} {V : Nat → Nat} {k W a : Nat} (h : packSt N V k = some (W, a)) (hs : isSome a (N k) = true) :
    packSt N V (k + 1) = if V k < 2 ^ (N k).toNat then some (setN W a (N k).toNat (V k), a + (N k).toNat) else none := by
  rw [packSt, h]
  simp [hs]

set_option maxHeartbeats 1000000 in
theorem pack_some (N : Nat → Int) (V : Nat → Nat) (b off len cap : Nat) (w : World)
   (hN : ∀ i, i < len → w.cell? ⟨b, off + i * 2, none⟩ = some (.int .i64 (N i))) (hV : ∀ i, i < len → w.cell? ⟨b, off + i * 2 + 1, none⟩ = some (.int .u64 (V i)))
   (bN : ∀ i, i < len → -9223372036854775808 ≤ N i ∧ N i ≤ 9223372036854775807) (bV : ∀ i, i < len → V i < 18446744073709551616)
   (hl : len ≤ 9223372036854775807) (hb : b < w.heap.size) :
    Calls Tryz.prog 77 #[.slice (some ⟨b, off, none⟩) len cap] w fun e w' =>
      e = .returned (.tuple #[.int .u64 ((((packSt N V len).getD (0, 0)).1 : Nat) : Int), .bool (packSt N V len).isSome]) ∧ Below w.heap.size w w' := by
  go_enter Tryz.func77, Tryz.ntmps77
  go_wp2
  go_loopw [4, 5, 10] (fun u v i wr => ∃ k : Nat, k ≤ len ∧ i = .int .i64 k ∧ ∃ W a : Nat, u = .int .u64 W ∧ v = .int .i64 a ∧ Hid (packSt N V k = some (W, a)) ∧ Below w.heap.size w wr) (fun _ _ i _ => len - (intOf i).toNat)
  case atStart => exact ⟨0, Nat.zero_le _, rfl, 0, 0, rfl, rfl, rfl, Below.refl _ _⟩
  case round =>
    obtain ⟨k, hk, rfl, W, a, rfl, rfl, hS, hbel⟩ := hrel
    have hbd := packSt_bounds hS.out
    by_cases hkl : k < len
    · have hc0 : wr.cell? ⟨b, off + k * 2, none⟩ = some (.int .i64 (N k)) := (hbel.cell hb).trans (hN k hkl)
      have hc1 : wr.cell? ⟨b, off + k * 2 + 1, none⟩ = some (.int .u64 (V k)) := (hbel.cell hb).trans (hV k hkl)
      have hbN := bN k hkl
      have hbV := bV k hkl
      clear hN hV bN bV
      by_cases hs : isSome a (N k) = true
      · have hs' := (isSome_iff _ _).1 hs
        obtain ⟨n, hn⟩ : ∃ n : Nat, N k = (n : Int) := ⟨(N k).toNat, by omega⟩
        have hn' : (N k).toNat = n := by omega
        have hst := packSt_step hS.out hs
        rw [hn'] at hst
        rw [hn] at hc0 hs hs' hbN
        have hn64 : 1 ≤ n ∧ n ≤ 64 ∧ a + n ≤ 64 := by omega
        clear hS hn hn' hs' hbN
        have HS : Hid (packSt N V (k + 1) = if V k < 2 ^ n then some (setN W a n (V k), a + n) else none) := hst
        clear hst
        generalize hvk : V k = v at *
        clear hvk
        by_cases hf : v < 2 ^ n
        · have hfd : decide (v < 2 ^ n) = true := decide_eq_true hf
          have HF : Hid (v < 2 ^ n) := hf
          clear hf
          go_wp2_with (first
            | (go_at_call 96; refine (some_any a n (by omega) (by omega) _).mono ?_; rintro e w' ⟨rfl, rfl⟩)
            | (go_at_call 98; refine (fits_yes v n (by omega) (by omega) _).mono ?_; rintro e w' ⟨rfl, rfl⟩)
            | (go_at_call 99; refine (set_yes W a n v (by omega) (by omega) (by omega) (by omega) _).mono ?_; rintro e w' ⟨rfl, rfl⟩))
          go_roundw
          case rel =>
            refine ⟨k + 1, by omega, by go_num, setN W a n v, a + n, rfl, by go_num, ?_, hbel.alloc hbel.size _⟩
            show packSt N V (k + 1) = _
            rw [HS.out, if_pos HF.out]
          case measure => simp [intOf]; omega
        · have hfd : decide (v < 2 ^ n) = false := decide_eq_false hf
          have HF : Hid (¬ v < 2 ^ n) := hf
          clear hf
          go_wp2_with (first
            | (go_at_call 96; refine (some_any a n (by omega) (by omega) _).mono ?_; rintro e w' ⟨rfl, rfl⟩)
            | (go_at_call 98; refine (fits_yes v n (by omega) (by omega) _).mono ?_; rintro e w' ⟨rfl, rfl⟩))
          go_ret2
          rw [packSt_none (k := k + 1) (by rw [HS.out, if_neg HF.out]) len (by omega)]
          exact ⟨rfl, hbel.alloc hbel.size _⟩
      · have hs0 : isSome a (N k) = false := by simpa using hs
        have hst : Hid (packSt N V (k + 1) = none) := by
          show packSt N V (k + 1) = none
          rw [packSt, hS.out]
          simp [hs0]
        clear hS hs
        generalize N k = n at *
        go_wp2_with (go_at_call 96; refine (some_any a n (by omega) (by omega) _).mono ?_; rintro e w' ⟨rfl, rfl⟩)
        go_ret2
        rw [packSt_none (k := k + 1) hst.out len (by omega)]
        exact ⟨rfl, hbel.alloc hbel.size _⟩
    · have hkn : k = len := by omega
      subst hkn
      clear hN hV bN bV
      go_wp2
      go_ret2
      rw [hS.out]
      exact ⟨rfl, hbel⟩

set_option maxHeartbeats 400000 in
theorem pack_empty (N : Nat → Int) (V : Nat → Nat) (ad : Option Addr) (cap : Nat) (w : World) :
    Calls Tryz.prog 77 #[.slice ad 0 cap] w fun e w' =>
      e = .returned (.tuple #[.int .u64 ((((packSt N V 0).getD (0, 0)).1 : Nat) : Int), .bool (packSt N V 0).isSome]) ∧ Below w.heap.size w w' := by
  go_enter Tryz.func77, Tryz.ntmps77
  go_wp2
  refine wp_loop_rounds 1 ?_
  rw [rounds_succ]
  go_wp2
  go_ret2
  exact ⟨rfl, Below.refl _ _⟩
end Go.Proofs.YtcioomopgdhlmaaGreatDoor.Hh
/- Plain facts on a header's numbers and its word: no program in sight. -/
namespace Go.Proofs.YtcioomopgdhlmaaGreatDoor.Hh

theorem setN_add (W a n V : Nat) (hW : W < 2 ^ a) (hV : V < 2 ^ n) (h : a + n ≤ 64) : setN W a n V = W + V * 2 ^ a ∧ W + V * 2 ^ a < 2 ^ (a + n) := by
  have hlt : W + V * 2 ^ a < 2 ^ (a + n) := by
    have h1 : (V + 1) * 2 ^ a ≤ 2 ^ n * 2 ^ a := Nat.mul_le_mul_right _ hV
    rw [← Nat.pow_add, Nat.add_comm n a, Nat.succ_mul] at h1
    omega
  refine ⟨?_, hlt⟩
  have e : W + V * 2 ^ a = 2 ^ a * V + W := by rw [Nat.mul_comm]; omega
  apply Nat.eq_of_testBit_eq
  intro i
  unfold setN
  rw [testBit_bitsOf, e, Nat.testBit_two_pow_mul_add _ hW]
  by_cases hi : i < 64
  · simp only [hi, decide_true, Bool.true_and]
    by_cases h1 : a ≤ i
    · rw [if_neg (by omega : ¬ i < a)]
      by_cases h2 : i < a + n
      · rw [if_pos ⟨h1, h2⟩]
      · rw [if_neg (by omega), Nat.testBit_lt_two_pow (Nat.lt_of_lt_of_le hW (Nat.pow_le_pow_right (by omega) h1)),
          Nat.testBit_lt_two_pow (Nat.lt_of_lt_of_le hV (Nat.pow_le_pow_right (by omega) (by omega)))]
    · rw [if_pos (by omega : i < a), if_neg (by omega)]
  · simp only [hi, decide_false, Bool.false_and]
    rw [if_neg (by omega : ¬ i < a), Nat.testBit_lt_two_pow (Nat.lt_of_lt_of_le hV (Nat.pow_le_pow_right (by omega) (by omega)))]

theorem pack_step_yes {N : Nat → Int} {V : Nat → Nat} {k W a n v : Nat} (h : packSt N V k = some (W, a)) (hW : W < 2 ^ a) (hn : N k = (n : Int)) (h1 : 1 ≤ n) (h2 : a + n ≤ 64) (hv : V k = v) (hf : v < 2 ^ n) :
    packSt N V (k + 1) = some (W + v * 2 ^ a, a + n) ∧ W + v * 2 ^ a < 2 ^ (a + n) := by
  subst hv
  have hs : isSome a (N k) = true := (isSome_iff _ _).2 (by omega)
  obtain ⟨e1, e2⟩ := setN_add W a n (V k) hW hf h2
  refine ⟨?_, e2⟩
  rw [packSt_step h hs, hn, Int.toNat_natCast, if_pos hf, e1]

theorem pack_step_no {N : Nat → Int} {V : Nat → Nat} {k W a n : Nat} (h : packSt N V k = some (W, a)) (hn : N k = (n : Int)) (hf : ¬ V k < 2 ^ n) : packSt N V (k + 1) = none := by
  rw [packSt, h]
  simp [hn, hf]

/-- A header's numbers. -/
def wd (i : Nat) : Nat := [3, 1, 1, 4, 7, 32, 16].getD i 0
def off (i : Nat) : Nat := [0, 3, 4, 5, 9, 16, 48, 64].getD i 0
def num7 (K M G A N S : Nat) (i : Nat) : Nat := [K, M, G, A, 0, N, S].getD i 0

theorem pack7_yes (K M G A N S : Nat) (hK : K < 8) (hM : M < 2) (hG : G < 2) (hA : A < 16) (hN : N < 4294967296) (hS : S < 65536) :
    packSt (fun i => (wd i : Int)) (num7 K M G A N S) 7 = some (K + 8 * M + 16 * G + 32 * A + 65536 * N + 281474976710656 * S, 64) := by
  obtain ⟨e1, b1⟩ := pack_step_yes (N := fun i => (wd i : Int)) (V := num7 K M G A N S) (k := 0) (W := 0) (a := 0) (n := 3) (v := K) rfl (by decide) rfl (by omega) (by omega) rfl hK
  obtain ⟨e2, b2⟩ := pack_step_yes (n := 1) (v := M) e1 b1 rfl (by omega) (by omega) rfl hM
  obtain ⟨e3, b3⟩ := pack_step_yes (n := 1) (v := G) e2 b2 rfl (by omega) (by omega) rfl hG
  obtain ⟨e4, b4⟩ := pack_step_yes (n := 4) (v := A) e3 b3 rfl (by omega) (by omega) rfl hA
  obtain ⟨e5, b5⟩ := pack_step_yes (n := 7) (v := 0) e4 b4 rfl (by omega) (by omega) rfl (by decide)
  obtain ⟨e6, b6⟩ := pack_step_yes (n := 32) (v := N) e5 b5 rfl (by omega) (by omega) rfl hN
  obtain ⟨e7, b7⟩ := pack_step_yes (n := 16) (v := S) e6 b6 rfl (by omega) (by omega) rfl hS
  refine e7.trans (congrArg some (Prod.ext ?_ rfl))
  simp only [Nat.zero_add]
  omega

theorem pack7_no (K M G A N S : Nat) (hK : K < 8) (hG : G < 2) (h : ¬ (M < 2 ∧ A < 16 ∧ N < 4294967296 ∧ S < 65536)) :
    packSt (fun i => (wd i : Int)) (num7 K M G A N S) 7 = none := by
  obtain ⟨e1, b1⟩ := pack_step_yes (N := fun i => (wd i : Int)) (V := num7 K M G A N S) (k := 0) (W := 0) (a := 0) (n := 3) (v := K) rfl (by decide) rfl (by omega) (by omega) rfl hK
  by_cases hM : M < 2
  · obtain ⟨e2, b2⟩ := pack_step_yes (n := 1) (v := M) e1 b1 rfl (by omega) (by omega) rfl hM
    obtain ⟨e3, b3⟩ := pack_step_yes (n := 1) (v := G) e2 b2 rfl (by omega) (by omega) rfl hG
    by_cases hA : A < 16
    · obtain ⟨e4, b4⟩ := pack_step_yes (n := 4) (v := A) e3 b3 rfl (by omega) (by omega) rfl hA
      obtain ⟨e5, b5⟩ := pack_step_yes (n := 7) (v := 0) e4 b4 rfl (by omega) (by omega) rfl (by decide)
      by_cases hN : N < 4294967296
      · obtain ⟨e6, b6⟩ := pack_step_yes (n := 32) (v := N) e5 b5 rfl (by omega) (by omega) rfl hN
        exact packSt_none (pack_step_no (n := 16) e6 rfl (by show ¬ S < 65536; omega)) 7 (by omega)
      · exact packSt_none (pack_step_no (n := 32) e5 rfl (by show ¬ N < 4294967296; omega)) 7 (by omega)
    · exact packSt_none (pack_step_no (n := 4) e3 rfl (by show ¬ A < 16; omega)) 7 (by omega)
  · exact packSt_none (pack_step_no (n := 1) e1 rfl (by show ¬ M < 2; omega)) 7 (by omega)
end Go.Proofs.YtcioomopgdhlmaaGreatDoor.Hh
