/- Plain facts on natural numbers and their bits: no Go in sight. -/
import Derived.WalkKit
import Derived.Laws.BitsAllLaws
namespace Go.Proofs.YtjbjijkkmlehgaaDoor.Tg

/-- The number of which bit i, below m, is set just if f says so. -/
def bitsOf (f : Nat → Bool) : Nat → Nat
  | 0 => 0
  | m + 1 => bitsOf f m + (if f m then 2 ^ m else 0)

theorem bitsOf_lt (f : Nat → Bool) (m : Nat) : bitsOf f m < 2 ^ m := by
  induction m with
  | zero => simp [bitsOf]
  | succ m ih =>
    simp only [bitsOf, Nat.pow_succ]
    split <;> omega

theorem testBit_bitsOf (f : Nat → Bool) (m i : Nat) : (bitsOf f m).testBit i = (decide (i < m) && f i) := by
  induction m with
  | zero => simp [bitsOf]
  | succ m ih =>
    have hlt := bitsOf_lt f m
    simp only [bitsOf]
    by_cases hf : f m = true
    · rw [if_pos hf, Nat.add_comm]
      rcases Nat.lt_trichotomy i m with h | h | h
      · rw [Nat.testBit_two_pow_add_gt h, ih]
        simp [h, Nat.lt_succ_of_lt h]
      · subst h
        rw [Nat.testBit_two_pow_add_eq, ih]
        simp [hf]
      · have h3 : 2 ^ m + bitsOf f m < 2 ^ i := by
          have : 2 ^ (m + 1) ≤ 2 ^ i := Nat.pow_le_pow_right (by omega) h
          rw [Nat.pow_succ] at this
          omega
        rw [Nat.testBit_lt_two_pow h3]
        have : ¬ i < m + 1 := by omega
        simp [this]
    · rw [if_neg hf, Nat.add_zero, ih]
      by_cases h : i = m
      · subst h
        simp [hf]
      · have : (i < m + 1) ↔ (i < m) := by omega
        simp [this]

def getN (W a n : Nat) : Nat := W / 2 ^ a % 2 ^ n

theorem testBit_getN (W a n i : Nat) : (getN W a n).testBit i = (decide (i < n) && W.testBit (a + i)) := by
  rw [getN, Nat.testBit_mod_two_pow, Nat.testBit_div_two_pow, Nat.add_comm]

theorem getN_eq (W a n : Nat) : bitsOf (fun i => W.testBit (a + i)) n = getN W a n := by
  apply Nat.eq_of_testBit_eq
  intro i
  rw [testBit_bitsOf, testBit_getN]

theorem getN_lt (W a n : Nat) (h : n ≤ 64) : getN W a n < 18446744073709551616 := by
  have h1 : getN W a n < 2 ^ n := Nat.mod_lt _ (Nat.pow_pos (by omega))
  have h2 : 2 ^ n ≤ 2 ^ 64 := Nat.pow_le_pow_right (by omega) h
  omega

def setN (W a n V : Nat) : Nat := bitsOf (fun i => if a ≤ i ∧ i < a + n then V.testBit (i - a) else W.testBit i) 64

theorem setN_lt (W a n V : Nat) : setN W a n V < 18446744073709551616 := bitsOf_lt _ 64

theorem mask_eq (W a n : Nat) : (W / 2 ^ a) &&& (2 ^ n - 1) = getN W a n := by
  rw [Nat.and_two_pow_sub_one_eq_mod, getN]

theorem maskShift_lt (a n : Nat) (h : a + n ≤ 64) : (2 ^ n - 1) * 2 ^ a < 18446744073709551616 := by
  have h1 : 2 ^ n * 2 ^ a ≤ 2 ^ 64 := by rw [← Nat.pow_add]; exact Nat.pow_le_pow_right (by omega) (by omega)
  have h2 : 0 < 2 ^ a := Nat.pow_pos (by omega)
  rw [Nat.sub_mul]
  omega

theorem setN_eq (W a n V : Nat) (hW : W < 18446744073709551616) (h : a + n ≤ 64) :
    (W &&& (18446744073709551615 - (2 ^ n - 1) * 2 ^ a)) ||| ((V * 2 ^ a % 18446744073709551616) &&& ((2 ^ n - 1) * 2 ^ a)) = setN W a n V := by
  have hm := maskShift_lt a n h
  have e1 : 18446744073709551615 - (2 ^ n - 1) * 2 ^ a = 2 ^ 64 - ((2 ^ n - 1) * 2 ^ a + 1) := by omega
  have e2 : (18446744073709551616 : Nat) = 2 ^ 64 := by decide
  apply Nat.eq_of_testBit_eq
  intro i
  have hbW : 64 ≤ i → W.testBit i = false := fun hi => Nat.testBit_lt_two_pow (Nat.lt_of_lt_of_le hW (Nat.pow_le_pow_right (n := 2) (i := 64) (by omega) hi))
  rw [e1, e2, Nat.testBit_or, Nat.testBit_and, Nat.testBit_and, Nat.testBit_two_pow_sub_succ (by omega), Nat.testBit_mod_two_pow, Nat.testBit_mul_two_pow, Nat.testBit_mul_two_pow, Nat.testBit_two_pow_sub_one, setN, testBit_bitsOf]
  by_cases h1 : a ≤ i
  · by_cases h2 : i < a + n
    · have h3 : i - a < n := by omega
      have h4 : i < 64 := by omega
      simp [h1, h2, h3, h4]
    · have h3 : ¬ i - a < n := by omega
      by_cases h4 : i < 64
      · simp [h1, h2, h3, h4]
      · simp [h1, h2, h3, h4, hbW (by omega)]
  · have h4 : i < 64 := by omega
    simp [h1, h4]

theorem get_z (W a n : Nat) (hW : W < 18446744073709551616) (h : n ≤ 64) : bits .and .u64 ((W : Int) / 2 ^ a) ((2 ^ n - 1 : Nat) : Int) = ((getN W a n : Nat) : Int) := by
  have e : ((W : Int) / 2 ^ a) = ((W / 2 ^ a : Nat) : Int) := by simp
  have h2 : 2 ^ n ≤ 2 ^ 64 := Nat.pow_le_pow_right (by omega) h
  rw [e, u64_and_nat _ _ (Nat.lt_of_le_of_lt (Nat.div_le_self _ _) hW) (by omega), mask_eq]

theorem set_z (W a n V : Nat) (hW : W < 18446744073709551616) (h : a + n ≤ 64) :
    bits .or .u64 (bits .andNot .u64 (W : Int) (IntKind.u64.wrap (((2 ^ n - 1 : Nat) : Int) * 2 ^ a))) (bits .and .u64 (IntKind.u64.wrap ((V : Int) * 2 ^ a)) (IntKind.u64.wrap (((2 ^ n - 1 : Nat) : Int) * 2 ^ a)))
      = ((setN W a n V : Nat) : Int) := by
  have hm := maskShift_lt a n h
  have e1 : IntKind.u64.wrap (((2 ^ n - 1 : Nat) : Int) * 2 ^ a) = (((2 ^ n - 1) * 2 ^ a : Nat) : Int) := by
    have : (((2 ^ n - 1 : Nat) : Int) * 2 ^ a) = (((2 ^ n - 1) * 2 ^ a : Nat) : Int) := by simp
    rw [IntKind.wrap_u64, this]
    omega
  have e2 : IntKind.u64.wrap ((V : Int) * 2 ^ a) = ((V * 2 ^ a % 18446744073709551616 : Nat) : Int) := by
    rw [IntKind.wrap_u64]; simp
  have l1 : W &&& (18446744073709551615 - (2 ^ n - 1) * 2 ^ a) < 18446744073709551616 := Nat.lt_of_le_of_lt Nat.and_le_left hW
  have l2 : V * 2 ^ a % 18446744073709551616 &&& (2 ^ n - 1) * 2 ^ a < 18446744073709551616 := Nat.lt_of_le_of_lt Nat.and_le_right hm
  rw [e1, e2, u64_andNot_nat _ _ hW hm, u64_and_nat _ _ (Nat.mod_lt _ (by omega)) hm, u64_or_nat _ _ l1 l2, setN_eq W a n V hW h]

theorem fits_z (V n : Nat) (hV : V < 18446744073709551616) : ((V : Int) / 2 ^ min n 64 == 0) = decide (V < 2 ^ n) := by
  have e : ((V : Int) / 2 ^ min n 64) = ((V / 2 ^ min n 64 : Nat) : Int) := by simp
  have h0 : 0 < 2 ^ min n 64 := Nat.pow_pos (by omega)
  have k : V / 2 ^ min n 64 = 0 ↔ V < 2 ^ n := by
    rw [Nat.div_eq_zero_iff]
    by_cases h : n ≤ 64
    · rw [Nat.min_eq_left h]
      have := Nat.pow_pos (a := 2) (n := n) (by omega)
      omega
    · have : 2 ^ 64 ≤ 2 ^ n := Nat.pow_le_pow_right (by omega) (by omega)
      rw [Nat.min_eq_right (by omega)]
      omega
  rw [e]
  by_cases h : V < 2 ^ n
  · simp only [k.2 h, h, decide_true]; rfl
  · have : ¬ V / 2 ^ min n 64 = 0 := fun c => h (k.1 c)
    simp only [h, decide_false]
    rw [beq_eq_false_iff_ne]
    omega

theorem rfits_z (V n : Nat) : decide ((V : Int) < 2 ^ n) = decide (V < 2 ^ n) := by
  have e : ((2 : Int) ^ n) = ((2 ^ n : Nat) : Int) := by simp
  rw [e]
  congr 1
  exact propext Int.ofNat_lt

end Go.Proofs.YtjbjijkkmlehgaaDoor.Tg
