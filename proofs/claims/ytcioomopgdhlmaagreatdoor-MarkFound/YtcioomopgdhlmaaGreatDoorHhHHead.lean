/- Contracts of head's other functions and of the document's. -/
import Derived.Test.YtcioomopgdhlmaaGreatDoorHhHPack
import Derived.Test.YtcioomopgdhlmaaGreatDoorHhHUnpack
namespace Go.Proofs.YtcioomopgdhlmaaGreatDoor.Hh
open Go.RowKit

/-- The word of a header's numbers. -/
def wordOf (K M G A N S : Nat) : Nat := K + 8 * M + 16 * G + 32 * A + 65536 * N + 281474976710656 * S

theorem wrap_nat (m : Int) : IntKind.u64.wrap m = (((m % 18446744073709551616).toNat : Nat) : Int) := by
  rw [IntKind.wrap_u64]; omega

theorem wordOf_lt (K M G A N S : Nat) (hK : K < 8) (hM : M < 2) (hG : G < 2) (hA : A < 16) (hN : N < 4294967296) (hS : S < 65536) : wordOf K M G A N S < 18446744073709551616 := by
  unfold wordOf; omega

theorem bool_lt (g : Bool) : g.toNat < 2 := by cases g <;> decide

theorem hpack_yes (K M : Nat) (g : Bool) (A N S : Nat) (hK : K ≤ 4) (hM : M < 2) (hA : A < 16) (hN : N < 4294967296) (hS : S < 65536) (w : World) (hw : WT w) :
    Calls Tryz.prog 53 #[.agg #[.int .i64 (K : Nat), .int .i64 (M : Nat), .bool g, .int .i64 (A : Nat), .int .i64 (N : Nat), .int .i64 (S : Nat)]] w fun e w' =>
      e = .returned (.tuple #[.int .u64 ((wordOf K M g.toNat A N S : Nat) : Int), .bool true]) ∧ Below w.heap.size w w' := by
  have h := hpack_ok K M g A N S M A N S hK (by rw [IntKind.wrap_u64]; omega) (by rw [IntKind.wrap_u64]; omega) (by rw [IntKind.wrap_u64]; omega) (by rw [IntKind.wrap_u64]; omega) (by omega) (by omega) (by omega) (by omega) w hw
  rw [pack7_yes K M g.toNat A N S (by omega) hM (bool_lt g) hA hN hS] at h
  exact h

/-- Is a header right? -/
def rightH (k m a n s : Int) : Bool := decide (0 ≤ k ∧ k ≤ 4 ∧ (m = 0 ∨ m = 1) ∧ 0 ≤ a ∧ a ≤ 15 ∧ 0 ≤ n ∧ n ≤ 4294967295 ∧ 0 ≤ s ∧ s ≤ 65535)

def In64 (z : Int) : Prop := -9223372036854775808 ≤ z ∧ z ≤ 9223372036854775807

theorem hpack_no (k m : Int) (g : Bool) (a n s : Int) (bm : In64 m) (ba : In64 a) (bn : In64 n) (bs : In64 s) (h : rightH k m a n s = false) (w : World) (hw : WT w) :
    Calls Tryz.prog 53 #[.agg #[.int .i64 k, .int .i64 m, .bool g, .int .i64 a, .int .i64 n, .int .i64 s]] w fun e w' => e = .returned (.tuple #[.int .u64 0, .bool false]) ∧ Below w.heap.size w w' := by
  unfold In64 at bm ba bn bs
  have h' := of_decide_eq_false h
  by_cases hk : kindOk k = true
  · unfold kindOk at hk
    simp only [Bool.and_eq_true, decide_eq_true_eq] at hk
    obtain ⟨K, rfl⟩ : ∃ K : Nat, k = (K : Int) := ⟨k.toNat, by omega⟩
    have c := hpack_ok K m g a n s _ _ _ _ (by omega) (wrap_nat m) (wrap_nat a) (wrap_nat n) (wrap_nat s) (by omega) (by omega) (by omega) (by omega) w hw
    rw [pack7_no K _ g.toNat _ _ _ (by omega) (bool_lt g) (by omega)] at c
    exact c
  · exact hpack_kind k m g a n s (by simpa using hk) w

set_option maxHeartbeats 1000000 in
theorem rpack_any (K M : Nat) (g : Bool) (A N S : Nat) (hK : K ≤ 4) (hM : M < 2) (hA : A < 16) (hN : N < 4294967296) (hS : S < 65536) (w : World) :
    Calls Tryz.prog 39 #[.agg #[.int .i64 (K : Nat), .int .i64 (M : Nat), .bool g, .int .i64 (A : Nat), .int .i64 (N : Nat), .int .i64 (S : Nat)]] w fun e w' =>
      e = .returned (.int .u64 ((wordOf K M g.toNat A N S : Nat) : Int)) ∧ Below w.heap.size w w' := by
  cases g
  · go_enter Tryz.func39, Tryz.ntmps39
    go_wp2
    go_ret
    exact ⟨congrArg (fun z => Ending.returned (Value.int .u64 z)) (by simp only [wordOf, Bool.toNat_false]; omega), (Below.refl w.heap.size w).alloc (Nat.le_refl _) _⟩
  · go_enter Tryz.func39, Tryz.ntmps39
    go_wp2
    go_ret
    exact ⟨congrArg (fun z => Ending.returned (Value.int .u64 z)) (by simp only [wordOf, Bool.toNat_true]; omega), (Below.refl w.heap.size w).alloc (Nat.le_refl _) _⟩

theorem getN0 (W : Nat) : getN W 0 3 = W % 8 := by simp [getN]
theorem getN1 (W : Nat) : getN W 3 1 = W / 8 % 2 := by simp [getN]
theorem getN2 (W : Nat) : getN W 4 1 = W / 16 % 2 := by simp [getN]
theorem getN3 (W : Nat) : getN W 5 4 = W / 32 % 16 := by simp [getN]
theorem getN4 (W : Nat) : getN W 9 7 = W / 512 % 128 := by simp [getN]
theorem getN5 (W : Nat) : getN W 16 32 = W / 65536 % 4294967296 := by simp [getN]
theorem getN6 (W : Nat) : getN W 48 16 = W / 281474976710656 % 65536 := by simp [getN]

set_option maxHeartbeats 1000000 in
theorem runpack_any (W : Nat) (hW : W < 18446744073709551616) (w : World) :
    Calls Tryz.prog 28 #[.int .u64 (W : Nat)] w fun e w' => e = .returned (unpV W) ∧ Below w.heap.size w w' := by
  have hu : Hid (unpV W = if okW W = true then _ else _) := rfl
  unfold okW kindOk at hu
  rw [getN0, getN1, getN2, getN3, getN4, getN5, getN6] at hu
  generalize unpV W = U at *
  have hu' := hu.out
  clear hu
  have e0 : ((W % 8 : Nat) : Int) = (W : Int) % 8 := by omega
  have e1 : ((W / 8 % 2 : Nat) : Int) = (W : Int) / 8 % 2 := by omega
  have e2 : ((W / 16 % 2 : Nat) : Int) = (W : Int) / 16 % 2 := by omega
  have e3 : ((W / 32 % 16 : Nat) : Int) = (W : Int) / 32 % 16 := by omega
  have e5 : ((W / 65536 % 4294967296 : Nat) : Int) = (W : Int) / 65536 % 4294967296 := by omega
  have e6 : ((W / 281474976710656 % 65536 : Nat) : Int) = (W : Int) / 281474976710656 := by omega
  rw [e0, e1, e2, e3, e5, e6] at hu'
  clear e0 e1 e2 e3 e5 e6
  by_cases h1 : (W : Int) % 8 ≤ 4
  · by_cases h2 : (W : Int) / 512 % 128 = 0
    · have h3 : W / 512 % 128 = 0 := by omega
      have h0 : 0 ≤ (W : Int) % 8 := by omega
      rw [if_pos (by simp [h1, h0, h3])] at hu'
      have HU : Hid (U = _) := hu'
      clear hu' h3 h0
      go_enter Tryz.func28, Tryz.ntmps28
      go_wp2
      refine bodyPost_ret (v := .tuple #[.agg #[.int .i64 ((W : Int) % 8), .int .i64 ((W : Int) / 8 % 2), .bool ((W : Int) / 16 % 2 == 1), .int .i64 ((W : Int) / 32 % 16), .int .i64 ((W : Int) / 65536 % 4294967296), .int .i64 ((W : Int) / 281474976710656)], .bool true]) (by simp [results, Tryz.results28, go_sem]) rfl ?_
      refine ⟨by rw [HU.out], ?_⟩
      have b1 : ∀ o, Below w.heap.size w (w.alloc o) := fun o => (Below.refl w.heap.size w).alloc (Nat.le_refl _) o
      exact (b1 _).alloc (b1 _).size _
    · have h3 : ¬ W / 512 % 128 = 0 := by omega
      have h2b : ((W : Int) / 512 % 128 != 0) = true := by simpa using h2
      rw [if_neg (by simp [h3])] at hu'
      have HU : Hid (U = _) := hu'
      clear hu' h3
      go_enter Tryz.func28, Tryz.ntmps28
      go_wp2
      refine bodyPost_ret (v := .tuple #[.agg #[.int .i64 0, .int .i64 0, .bool false, .int .i64 0, .int .i64 0, .int .i64 0], .bool false]) (by simp [results, Tryz.results28, go_sem]) rfl ?_
      refine ⟨by rw [HU.out], ?_⟩
      have b1 : ∀ o, Below w.heap.size w (w.alloc o) := fun o => (Below.refl w.heap.size w).alloc (Nat.le_refl _) o
      exact (b1 _).alloc (b1 _).size _
  · rw [if_neg (by simp [h1])] at hu'
    have HU : Hid (U = _) := hu'
    clear hu'
    go_enter Tryz.func28, Tryz.ntmps28
    go_wp2
    refine bodyPost_ret (v := .tuple #[.agg #[.int .i64 0, .int .i64 0, .bool false, .int .i64 0, .int .i64 0, .int .i64 0], .bool false]) (by simp [results, Tryz.results28, go_sem]) rfl ?_
    refine ⟨by rw [HU.out], ?_⟩
    have b1 : ∀ o, Below w.heap.size w (w.alloc o) := fun o => (Below.refl w.heap.size w).alloc (Nat.le_refl _) o
    exact (b1 _).alloc (b1 _).size _


end Go.Proofs.YtcioomopgdhlmaaGreatDoor.Hh
