/- Plain facts on a header's numbers and its word: no program in sight. -/
import Derived.Test.YtjbjijkkmlehgaaDoorHhPack
namespace Go.Proofs.YtjbjijkkmlehgaaDoor.Hh

theorem setN_add (W a n V : Nat) (hW : W < 2 ^ a) (hV : V < 2 ^ n) (h : a + n ≤ 64) : setN W a n V = W + V * 2 ^ a ∧ W + V * 2 ^ a < 2 ^ (a + n) := by
  have hlt : W + V * 2 ^ a < 2 ^ (a + n) := by
    have h1 : (V + 1) * 2 ^ a ≤ 2 ^ n * 2 ^ a := Nat.mul_le_mul_right _ hV
    rw [← Nat.pow_add, Nat.add_comm n a, Nat.succ_mul] at h1
    omega
  refine ⟨?_, hlt⟩
  have e : W + V * 2 ^ a = 2 ^ a * V + W := by rw [Nat.mul_comm]; omega
  apply Nat.eq_of_testBit_eq
  intro i
  unfold setN
  rw [testBit_bitsOf, e, Nat.testBit_two_pow_mul_add _ hW]
  by_cases hi : i < 64
  · simp only [hi, decide_true, Bool.true_and]
    by_cases h1 : a ≤ i
    · rw [if_neg (by omega : ¬ i < a)]
      by_cases h2 : i < a + n
      · rw [if_pos ⟨h1, h2⟩]
      · rw [if_neg (by omega), Nat.testBit_lt_two_pow (Nat.lt_of_lt_of_le hW (Nat.pow_le_pow_right (by omega) h1)),
          Nat.testBit_lt_two_pow (Nat.lt_of_lt_of_le hV (Nat.pow_le_pow_right (by omega) (by omega)))]
    · rw [if_pos (by omega : i < a), if_neg (by omega)]
  · simp only [hi, decide_false, Bool.false_and]
    rw [if_neg (by omega : ¬ i < a), Nat.testBit_lt_two_pow (Nat.lt_of_lt_of_le hV (Nat.pow_le_pow_right (by omega) (by omega)))]

theorem pack_step_yes {N : Nat → Int} {V : Nat → Nat} {k W a n v : Nat} (h : packSt N V k = some (W, a)) (hW : W < 2 ^ a) (hn : N k = (n : Int)) (h1 : 1 ≤ n) (h2 : a + n ≤ 64) (hv : V k = v) (hf : v < 2 ^ n) :
    packSt N V (k + 1) = some (W + v * 2 ^ a, a + n) ∧ W + v * 2 ^ a < 2 ^ (a + n) := by
  subst hv
  have hs : isSome a (N k) = true := (isSome_iff _ _).2 (by omega)
  obtain ⟨e1, e2⟩ := setN_add W a n (V k) hW hf h2
  refine ⟨?_, e2⟩
  rw [packSt_step h hs, hn, Int.toNat_natCast, if_pos hf, e1]

theorem pack_step_no {N : Nat → Int} {V : Nat → Nat} {k W a n : Nat} (h : packSt N V k = some (W, a)) (hn : N k = (n : Int)) (hf : ¬ V k < 2 ^ n) : packSt N V (k + 1) = none := by
  rw [packSt, h]
  simp [hn, hf]

/-- A header's numbers. -/
def wd (i : Nat) : Nat := [3, 1, 1, 4, 7, 32, 16].getD i 0
def off (i : Nat) : Nat := [0, 3, 4, 5, 9, 16, 48, 64].getD i 0
def num7 (K M G A N S : Nat) (i : Nat) : Nat := [K, M, G, A, 0, N, S].getD i 0

theorem pack7_yes (K M G A N S : Nat) (hK : K < 8) (hM : M < 2) (hG : G < 2) (hA : A < 16) (hN : N < 4294967296) (hS : S < 65536) :
    packSt (fun i => (wd i : Int)) (num7 K M G A N S) 7 = some (K + 8 * M + 16 * G + 32 * A + 65536 * N + 281474976710656 * S, 64) := by
  obtain ⟨e1, b1⟩ := pack_step_yes (N := fun i => (wd i : Int)) (V := num7 K M G A N S) (k := 0) (W := 0) (a := 0) (n := 3) (v := K) rfl (by decide) rfl (by omega) (by omega) rfl hK
  obtain ⟨e2, b2⟩ := pack_step_yes (n := 1) (v := M) e1 b1 rfl (by omega) (by omega) rfl hM
  obtain ⟨e3, b3⟩ := pack_step_yes (n := 1) (v := G) e2 b2 rfl (by omega) (by omega) rfl hG
  obtain ⟨e4, b4⟩ := pack_step_yes (n := 4) (v := A) e3 b3 rfl (by omega) (by omega) rfl hA
  obtain ⟨e5, b5⟩ := pack_step_yes (n := 7) (v := 0) e4 b4 rfl (by omega) (by omega) rfl (by decide)
  obtain ⟨e6, b6⟩ := pack_step_yes (n := 32) (v := N) e5 b5 rfl (by omega) (by omega) rfl hN
  obtain ⟨e7, b7⟩ := pack_step_yes (n := 16) (v := S) e6 b6 rfl (by omega) (by omega) rfl hS
  refine e7.trans (congrArg some (Prod.ext ?_ rfl))
  simp only [Nat.zero_add]
  omega

theorem pack7_no (K M G A N S : Nat) (hK : K < 8) (hG : G < 2) (h : ¬ (M < 2 ∧ A < 16 ∧ N < 4294967296 ∧ S < 65536)) :
    packSt (fun i => (wd i : Int)) (num7 K M G A N S) 7 = none := by
  obtain ⟨e1, b1⟩ := pack_step_yes (N := fun i => (wd i : Int)) (V := num7 K M G A N S) (k := 0) (W := 0) (a := 0) (n := 3) (v := K) rfl (by decide) rfl (by omega) (by omega) rfl hK
  by_cases hM : M < 2
  · obtain ⟨e2, b2⟩ := pack_step_yes (n := 1) (v := M) e1 b1 rfl (by omega) (by omega) rfl hM
    obtain ⟨e3, b3⟩ := pack_step_yes (n := 1) (v := G) e2 b2 rfl (by omega) (by omega) rfl hG
    by_cases hA : A < 16
    · obtain ⟨e4, b4⟩ := pack_step_yes (n := 4) (v := A) e3 b3 rfl (by omega) (by omega) rfl hA
      obtain ⟨e5, b5⟩ := pack_step_yes (n := 7) (v := 0) e4 b4 rfl (by omega) (by omega) rfl (by decide)
      by_cases hN : N < 4294967296
      · obtain ⟨e6, b6⟩ := pack_step_yes (n := 32) (v := N) e5 b5 rfl (by omega) (by omega) rfl hN
        exact packSt_none (pack_step_no (n := 16) e6 rfl (by show ¬ S < 65536; omega)) 7 (by omega)
      · exact packSt_none (pack_step_no (n := 32) e5 rfl (by show ¬ N < 4294967296; omega)) 7 (by omega)
    · exact packSt_none (pack_step_no (n := 4) e3 rfl (by show ¬ A < 16; omega)) 7 (by omega)
  · exact packSt_none (pack_step_no (n := 1) e1 rfl (by show ¬ M < 2; omega)) 7 (by omega)
end Go.Proofs.YtjbjijkkmlehgaaDoor.Hh
