/- Contracts of the small callees of package word and of its reference: 'some', 'Some', 'low', 'Power', 'Bit', 'Fits'. -/
import Derived.Test.YtjbjijkkmlehgaaDoorRows
import Derived.WalkKit
import Derived.WalkSpells
import Derived.WalkLawsBesides
import Derived.Laws.BitsAllLaws
import Derived.OpenShut
namespace Go.Proofs.YtjbjijkkmlehgaaDoor.Tg
open Go.RowKit

def isSome (a n : Int) : Bool := decide (1 ≤ n) && decide (0 ≤ a) && decide (a ≤ 64 - n)

theorem isSome_iff (a n : Int) : isSome a n = true ↔ 1 ≤ n ∧ 0 ≤ a ∧ a ≤ 64 - n := by
  simp [isSome, and_assoc]

theorem isSome_eq {a n : Int} {p : Prop} [Decidable p] (h : p ↔ 1 ≤ n ∧ 0 ≤ a ∧ a ≤ 64 - n) : decide p = isSome a n := by
  have h2 := isSome_iff a n
  by_cases hp : p
  · rw [h2.2 (h.1 hp)]; simpa using hp
  · have : ¬ isSome a n = true := fun k => hp (h.2 (h2.1 k))
    rw [Bool.eq_false_iff.2 this]; simpa using hp

theorem isSome_no {a n : Int} (h : ¬ (1 ≤ n ∧ 0 ≤ a ∧ a ≤ 64 - n)) : false = isSome a n := by
  cases e : isSome a n
  · rfl
  · exact absurd ((isSome_iff a n).1 e) h

theorem u64_nat {a : Int} (h : (Lit.int .u64 a).wf = true) : ∃ A : Nat, a = (A : Int) ∧ A < 18446744073709551616 := by
  have := bounds_u64 h
  exact ⟨a.toNat, by omega, by omega⟩

set_option maxHeartbeats 400000 in
theorem some_any (a n : Int) (ha : -9223372036854775808 ≤ a ∧ a ≤ 9223372036854775807) (hn : -9223372036854775808 ≤ n ∧ n ≤ 9223372036854775807) (w : World) :
    Calls Tryd.prog 83 #[.int .i64 a, .int .i64 n] w fun e w' => e = .returned (.bool (isSome a n)) ∧ w = w' := by
  go_enter Tryd.func83, Tryd.ntmps83
  go_wp2
  all_goals go_ret
  · exact ⟨congrArg (fun b => Ending.returned (Value.bool b)) (isSome_eq (a := a) (n := n) (p := a ≤ 64 - n) (by omega)), rfl⟩
  · exact ⟨congrArg (fun b => Ending.returned (Value.bool b)) (isSome_no (a := a) (n := n) (by omega)), rfl⟩
  · exact ⟨congrArg (fun b => Ending.returned (Value.bool b)) (isSome_no (a := a) (n := n) (by omega)), rfl⟩

theorem low_eq (n : Nat) (h2 : n ≤ 64) : (18446744073709551615 : Int) / 2 ^ (64 - n) = ((2 ^ n - 1 : Nat) : Int) := by
  have e : (2:Nat) ^ 64 = 2 ^ n * 2 ^ (64 - n) := by rw [← Nat.pow_add]; congr 1; omega
  have hp : 0 < 2 ^ (64 - n) := Nat.pow_pos (by omega)
  have hn : 0 < 2 ^ n := Nat.pow_pos (by omega)
  have k : 18446744073709551615 / 2 ^ (64 - n) = 2 ^ n - 1 := by
    have e2 : 18446744073709551615 = (2 ^ n - 1) * 2 ^ (64 - n) + (2 ^ (64 - n) - 1) := by
      rw [Nat.sub_mul]
      have : 2 ^ (64 - n) ≤ 2 ^ n * 2 ^ (64 - n) := Nat.le_mul_of_pos_left _ hn
      omega
    rw [e2, Nat.mul_comm, Nat.mul_add_div hp, Nat.div_eq_of_lt (by omega)]; omega
  rw [← k]; simp

set_option maxHeartbeats 400000 in
theorem low_any (n : Nat) (h1 : 1 ≤ n) (h2 : n ≤ 64) (w : World) :
    Calls Tryd.prog 84 #[.int .i64 n] w fun e w' => e = .returned (.int .u64 ((2 ^ n - 1 : Nat) : Int)) ∧ w = w' := by
  go_enter Tryd.func84, Tryd.ntmps84
  go_wp2
  go_ret
  exact ⟨congrArg (fun b => Ending.returned (Value.int .u64 b)) (low_eq n h2), rfl⟩

theorem pow_lt {k n : Nat} (h : k ≤ n) : 2 ^ k ≤ 2 ^ n := Nat.pow_le_pow_right (by omega) h

theorem testBit_eq (W k : Nat) : decide (W / 2 ^ k % 2 = 1) = W.testBit k := by
  rw [Nat.testBit_eq_decide_div_mod_eq]

theorem odd_eq (V : Nat) : ((V : Int) % 2 == 1) = decide (V % 2 = 1) := by
  by_cases h : V % 2 = 1
  · have : (V : Int) % 2 = 1 := by omega
    simp [h, this]
  · have : ¬ (V : Int) % 2 = 1 := by omega
    simp [h, this]

end Go.Proofs.YtjbjijkkmlehgaaDoor.Tg
