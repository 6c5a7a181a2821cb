/- Plain facts on sums of shifted numbers: no program in sight. -/
import Derived.Test.YtjbjijkkmlehgaaDoorPack
namespace Go.Proofs.YtjbjijkkmlehgaaDoor.Tg

theorem setN_add (W a n V : Nat) (hW : W < 2 ^ a) (hV : V < 2 ^ n) (h : a + n ≤ 64) : setN W a n V = W + V * 2 ^ a ∧ W + V * 2 ^ a < 2 ^ (a + n) := by
  have hlt : W + V * 2 ^ a < 2 ^ (a + n) := by
    have h1 : (V + 1) * 2 ^ a ≤ 2 ^ n * 2 ^ a := Nat.mul_le_mul_right _ hV
    rw [← Nat.pow_add, Nat.add_comm n a, Nat.succ_mul] at h1
    omega
  refine ⟨?_, hlt⟩
  have e : W + V * 2 ^ a = 2 ^ a * V + W := by rw [Nat.mul_comm]; omega
  apply Nat.eq_of_testBit_eq
  intro i
  unfold setN
  rw [testBit_bitsOf, e, Nat.testBit_two_pow_mul_add _ hW]
  by_cases hi : i < 64
  · simp only [hi, decide_true, Bool.true_and]
    by_cases h1 : a ≤ i
    · rw [if_neg (by omega : ¬ i < a)]
      by_cases h2 : i < a + n
      · rw [if_pos ⟨h1, h2⟩]
      · rw [if_neg (by omega), Nat.testBit_lt_two_pow (Nat.lt_of_lt_of_le hW (Nat.pow_le_pow_right (by omega) h1)),
          Nat.testBit_lt_two_pow (Nat.lt_of_lt_of_le hV (Nat.pow_le_pow_right (by omega) (by omega)))]
    · rw [if_pos (by omega : i < a), if_neg (by omega)]
  · simp only [hi, decide_false, Bool.false_and]
    rw [if_neg (by omega : ¬ i < a), Nat.testBit_lt_two_pow (Nat.lt_of_lt_of_le hV (Nat.pow_le_pow_right (by omega) (by omega)))]

theorem pack_step_yes {N : Nat → Int} {V : Nat → Nat} {k W a n v : Nat} (h : packSt N V k = some (W, a)) (hW : W < 2 ^ a) (hn : N k = (n : Int)) (h1 : 1 ≤ n) (h2 : a + n ≤ 64) (hv : V k = v) (hf : v < 2 ^ n) :
    packSt N V (k + 1) = some (W + v * 2 ^ a, a + n) ∧ W + v * 2 ^ a < 2 ^ (a + n) := by
  subst hv
  have hs : isSome a (N k) = true := (isSome_iff _ _).2 (by omega)
  obtain ⟨e1, e2⟩ := setN_add W a n (V k) hW hf h2
  refine ⟨?_, e2⟩
  rw [packSt_step h hs, hn, Int.toNat_natCast, if_pos hf, e1]

theorem pack_step_no {N : Nat → Int} {V : Nat → Nat} {k W a n : Nat} (h : packSt N V k = some (W, a)) (hn : N k = (n : Int)) (hf : ¬ V k < 2 ^ n) : packSt N V (k + 1) = none := by
  rw [packSt, h]
  simp [hn, hf]

end Go.Proofs.YtjbjijkkmlehgaaDoor.Tg
