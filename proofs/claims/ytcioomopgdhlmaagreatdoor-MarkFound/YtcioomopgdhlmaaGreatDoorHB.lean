/-
  Whole numbers below 2^53 as words of a double: read, written, added, multiplied, compared without any loss.
-/
import Derived.WalkLawsBesides
import Derived.Test.YtcioomopgdhlmaaGreatDoorRows
import Derived.WalkKit
import Derived.WalkSpells
import Derived.Laws.BitsAllLaws
import Derived.OpenShut
import Derived.Below
import Derived.Deep.QuietTactic
import Derived.Deep.Draws
import Derived.Deep.RegionWith
import Derived.BigQuiet
import Derived.Deep.Cut
import Derived.Test.YtcioomopgdhlmaaGreatDoorHA
import Derived.RegionTactic
import Derived.ChangeAlike
import Derived.Deep.RegionHeld
namespace Go.Proofs.YtcioomopgdhlmaaGreatDoor.Hh

/-- The word x of a double stands for the whole number z (a zero may have either sign). -/
def Rep (x : Nat) (z : Int) : Prop :=
  x < 2 ^ 64 ∧ ∃ (s : Bool) (k : Nat), Ieee.double.read x = .number s (z.natAbs * 2 ^ k) (-(k : Int)) ∧ (z < 0 → s = true) ∧ (0 < z → s = false)

theorem dbl_binade : Ieee.double.binade = 4503599627370496 := rfl
theorem dbl_inf : Ieee.double.infRung = 9218868437227405312 := rfl
theorem dbl_sign : Ieee.double.signWeight = 9223372036854775808 := rfl
theorem dbl_least : Ieee.double.leastPlace = -1074 := rfl
theorem dbl_frac : Ieee.double.fractionBits = 52 := rfl

theorem read_def (x : Nat) : Ieee.double.read x =
    if x % 9223372036854775808 < 4503599627370496 then .number (x / 9223372036854775808 % 2 == 1) (x % 9223372036854775808) (-1074)
    else if x % 9223372036854775808 < 9218868437227405312 then .number (x / 9223372036854775808 % 2 == 1) (4503599627370496 + x % 9223372036854775808 % 4503599627370496) (-1074 + (x % 9223372036854775808 / 4503599627370496 - 1 : Nat))
    else if x % 9223372036854775808 = 9218868437227405312 then .infinity (x / 9223372036854775808 % 2 == 1)
    else .nan (x / 9223372036854775808 % 2 == 1) (x % 9223372036854775808 - 9218868437227405312) := rfl

theorem read_word (s : Bool) (r : Nat) (h1 : 4503599627370496 ≤ r) (h2 : r < 9218868437227405312) :
    Ieee.double.read (Ieee.double.word s r) = .number s (4503599627370496 + r % 4503599627370496) (-1074 + (r / 4503599627370496 - 1 : Nat)) := by
  unfold Ieee.Format.read Ieee.Format.word
  simp only [dbl_binade, dbl_inf, dbl_sign, dbl_least]
  cases s
  · have e1 : r % 9223372036854775808 = r := by omega
    have e2 : r / 9223372036854775808 = 0 := by omega
    simp [e1, e2, Nat.not_lt.2 h1, h2]
  · have e1 : (9223372036854775808 + r) % 9223372036854775808 = r := by omega
    have e2 : (9223372036854775808 + r) / 9223372036854775808 = 1 := by omega
    simp [e1, e2, Nat.not_lt.2 h1, h2]

theorem log2_shift (n k : Nat) (h : n ≠ 0) : (n * 2 ^ k).log2 = n.log2 + k := by
  have hp : 0 < 2 ^ k := Nat.two_pow_pos k
  have hne : n * 2 ^ k ≠ 0 := Nat.mul_ne_zero h (Nat.ne_of_gt hp)
  rw [Nat.log2_eq_iff hne]
  have a := (Nat.log2_eq_iff (k := n.log2) h).1 rfl
  constructor
  · rw [Nat.pow_add]; exact Nat.mul_le_mul_right _ a.1
  · rw [Nat.add_right_comm, Nat.pow_add]; exact Nat.mul_lt_mul_of_pos_right a.2 hp

theorem cut_exact (s : Bool) (m d : Nat) (h : 0 < m) : Ieee.Toward.even.cut s (m * 2 ^ d) d = m := by
  have hp : 0 < 2 ^ d := Nat.two_pow_pos d
  unfold Ieee.Toward.cut
  have hm : min d ((m * 2 ^ d).log2 + 2) = d := by rw [log2_shift m d (by omega)]; omega
  have e2 : m * 2 ^ d % 2 ^ d = 0 := Nat.mul_mod_left ..
  have e3 : m * 2 ^ d / 2 ^ d = m := Nat.mul_div_cancel _ hp
  have e4 : ¬ 2 ^ d = 0 := by omega
  simp only [hm, Nat.one_shiftLeft, e2, e3]
  simp

theorem nearest_exact (s : Bool) (n k : Nat) (h0 : n ≠ 0) (h : n < 2 ^ 53) :
    Ieee.double.nearest s (n * 2 ^ k) (-(k : Int)) = Ieee.double.word s ((n.log2 + 1022) * 4503599627370496 + n * 2 ^ (52 - n.log2)) ∧ n.log2 ≤ 52
      ∧ 4503599627370496 ≤ n * 2 ^ (52 - n.log2) ∧ n * 2 ^ (52 - n.log2) < 9007199254740992 := by
  have a := (Nat.log2_eq_iff (k := n.log2) h0).1 rfl
  have hL : n.log2 ≤ 52 := by
    have : n.log2 < 53 := (Nat.pow_lt_pow_iff_right (a := 2) (by omega)).1 (Nat.lt_of_le_of_lt a.1 h)
    omega
  have hp : 0 < 2 ^ k := Nat.two_pow_pos k
  have hlog := log2_shift n k h0
  generalize n.log2 = L at *
  have b1 : 4503599627370496 ≤ n * 2 ^ (52 - L) := by
    have h1 := Nat.mul_le_mul_right (2 ^ (52 - L)) a.1
    rw [← Nat.pow_add, show L + (52 - L) = 52 by omega, show (2 : Nat) ^ 52 = 4503599627370496 by decide] at h1
    exact h1
  have b2 : n * 2 ^ (52 - L) < 9007199254740992 := by
    have h1 := Nat.mul_lt_mul_of_pos_right a.2 (Nat.two_pow_pos (52 - L))
    rw [← Nat.pow_add, show L + 1 + (52 - L) = 53 by omega, show (2 : Nat) ^ 53 = 9007199254740992 by decide] at h1
    exact h1
  clear a h
  refine ⟨?_, hL, b1, b2⟩
  have hne : n * 2 ^ k ≠ 0 := Nat.mul_ne_zero h0 (Nat.ne_of_gt hp)
  unfold Ieee.Format.nearest
  simp only [if_neg hne, dbl_binade, dbl_inf, dbl_least, dbl_frac, hlog]
  have hlast : max (-(k : Int) + ((L + k : Nat) : Int) - ((52 : Nat) : Int)) (-1074) = (L : Int) - 52 := by omega
  rw [hlast]
  have e1 : (-(k : Int) - ((L : Int) - 52)).toNat = 52 - L - k := by omega
  have e2 : ((L : Int) - 52 - -(k : Int)).toNat = k - (52 - L) := by omega
  have e3 : ((L : Int) - 52 - -1074).toNat = L + 1022 := by omega
  rw [e1, e2, e3, Nat.shiftLeft_eq]
  have hk : n * 2 ^ k * 2 ^ (52 - L - k) = n * 2 ^ (52 - L) * 2 ^ (k - (52 - L)) := by
    rw [Nat.mul_assoc, Nat.mul_assoc, ← Nat.pow_add, ← Nat.pow_add]
    congr 2
    omega
  rw [hk, cut_exact s _ _ (by omega)]
  generalize n * 2 ^ (52 - L) = M at *
  rw [Nat.min_eq_left (by omega)]

theorem read_zero (s : Bool) : Ieee.double.read (Ieee.double.word s 0) = .number s 0 (-1074) := by cases s <;> rfl

theorem zero_scale {n : Nat} (k : Nat) (h : n = 0) : n * 2 ^ k = 0 := by subst h; exact Nat.zero_mul _

theorem rep_nearest (s : Bool) (z : Int) (k : Nat) (h : z.natAbs < 2 ^ 53) (hn : z < 0 → s = true) (hp : 0 < z → s = false) :
    Rep (Ieee.double.nearest s (z.natAbs * 2 ^ k) (-(k : Int))) z := by
  refine ⟨Ieee.Format.nearest_lt .., ?_⟩
  by_cases h0 : z.natAbs = 0
  · refine ⟨s, 1074, ?_, hn, hp⟩
    have e0 : Ieee.double.nearest s (z.natAbs * 2 ^ k) (-(k : Int)) = Ieee.double.word s 0 := by
      unfold Ieee.Format.nearest
      rw [h0, Nat.zero_mul, if_pos rfl]
    have e1 : z.natAbs * 2 ^ 1074 = 0 := zero_scale 1074 h0
    rw [e0, e1]
    exact read_zero s
  · obtain ⟨e, hL, b1, b2⟩ := nearest_exact s z.natAbs k h0 h
    refine ⟨s, 52 - z.natAbs.log2, ?_, hn, hp⟩
    rw [e]
    generalize z.natAbs * 2 ^ (52 - z.natAbs.log2) = M at *
    generalize z.natAbs.log2 = L at *
    rw [read_word s _ (by omega) (by omega)]
    congr 1 <;> omega

theorem signed_rep (s : Bool) (z : Int) (k up : Nat) (hn : z < 0 → s = true) (hp : 0 < z → s = false) :
    Ieee.signed s (z.natAbs * 2 ^ k) up = z * 2 ^ (k + up) := by
  unfold Ieee.signed
  rw [Nat.shiftLeft_eq, Nat.mul_assoc, ← Nat.pow_add]
  have e : ((z.natAbs * 2 ^ (k + up) : Nat) : Int) = (z.natAbs : Int) * 2 ^ (k + up) := by simp
  rw [e]
  rcases Int.lt_trichotomy z 0 with h | h | h
  · rw [hn h, if_pos rfl, ← Int.neg_mul]; congr 1; omega
  · subst h; simp
  · rw [hp h]; simp only [Bool.false_eq_true, if_false]; congr 1; omega

theorem rep_mul {x y : Nat} {a b : Int} (hx : Rep x a) (hy : Rep y b) (h : (a * b).natAbs < 2 ^ 53) :
    ∃ r, floatBits .mul .f64 x y = some r ∧ Rep r (a * b) := by
  obtain ⟨_, s, k, e1, n1, p1⟩ := hx
  obtain ⟨_, t, j, e2, n2, p2⟩ := hy
  refine ⟨Ieee.double.nearest (s ^^ t) ((a * b).natAbs * 2 ^ (k + j)) (-((k + j : Nat) : Int)), ?_, rep_nearest _ _ _ h ?_ ?_⟩
  · show Ieee.double.mul x y = _
    unfold Ieee.Format.mul
    rw [e1, e2]
    simp only [Ieee.Datum.product, Option.map_some, Ieee.Format.write]
    congr 2
    · rw [Int.natAbs_mul, Nat.pow_add, Nat.mul_mul_mul_comm]
    · omega
  · intro hneg
    rcases Int.lt_trichotomy a 0 with ha | ha | ha
    · rcases Int.lt_trichotomy b 0 with hb | hb | hb
      · have := Int.mul_pos_of_neg_of_neg ha hb; omega
      · subst hb; simp at hneg
      · rw [n1 ha, p2 hb]; rfl
    · subst ha; simp at hneg
    · rcases Int.lt_trichotomy b 0 with hb | hb | hb
      · rw [p1 ha, n2 hb]; rfl
      · subst hb; simp at hneg
      · have := Int.mul_pos ha hb; omega
  · intro hpos
    rcases Int.lt_trichotomy a 0 with ha | ha | ha
    · rcases Int.lt_trichotomy b 0 with hb | hb | hb
      · rw [n1 ha, n2 hb]; rfl
      · subst hb; simp at hpos
      · have := Int.mul_neg_of_neg_of_pos ha hb; omega
    · subst ha; simp at hpos
    · rcases Int.lt_trichotomy b 0 with hb | hb | hb
      · have := Int.mul_neg_of_pos_of_neg ha hb; omega
      · subst hb; simp at hpos
      · rw [p1 ha, p2 hb]; rfl

theorem base_of (k j : Nat) : min (-(k : Int)) (-(j : Int)) = -((max k j : Nat) : Int) := by omega
theorem up_left (k j : Nat) : k + (-(k : Int) - -((max k j : Nat) : Int)).toNat = max k j := by omega
theorem up_right (k j : Nat) : j + (-(j : Int) - -((max k j : Nat) : Int)).toNat = max k j := by omega

theorem scale_neg (z : Int) (K : Nat) : (z * 2 ^ K < 0 ↔ z < 0) ∧ (z * 2 ^ K = 0 ↔ z = 0) ∧ (z * 2 ^ K).natAbs = z.natAbs * 2 ^ K := by
  have hp : (0 : Int) < 2 ^ K := Int.pow_pos (by decide)
  refine ⟨⟨fun h => ?_, fun h => Int.mul_neg_of_neg_of_pos h hp⟩, ⟨fun h => ?_, fun h => by subst h; simp⟩, ?_⟩
  · rcases Int.lt_trichotomy z 0 with h' | h' | h'
    · exact h'
    · subst h'; simp at h
    · have := Int.mul_pos h' hp; omega
  · rcases Int.mul_eq_zero.1 h with h' | h'
    · exact h'
    · omega
  · rw [Int.natAbs_mul, Int.natAbs_pow]; rfl

theorem sum_rep {s t : Bool} {a b : Int} {k j : Nat} (n1 : a < 0 → s = true) (p1 : 0 < a → s = false) (n2 : b < 0 → t = true) (p2 : 0 < b → t = false) (h : (a + b).natAbs < 2 ^ 53) :
    ∃ r, (Ieee.Datum.sum (.number s (a.natAbs * 2 ^ k) (-(k : Int))) (.number t (b.natAbs * 2 ^ j) (-(j : Int)))).map Ieee.double.write = some r ∧ Rep r (a + b) := by
  simp only [Ieee.Datum.sum, Option.map_some, Ieee.Format.write, base_of, signed_rep s a k _ n1 p1, signed_rep t b j _ n2 p2, up_left, up_right]
  generalize max k j = K
  rw [← Int.add_mul]
  obtain ⟨g1, g2, g3⟩ := scale_neg (a + b) K
  refine ⟨_, rfl, ?_⟩
  rw [g3]
  refine rep_nearest _ _ _ h ?_ ?_
  · intro hneg
    rw [if_neg (by rw [g2]; omega)]
    simpa [g1] using hneg
  · intro hpos
    rw [if_neg (by rw [g2]; omega)]
    simp only [g1, decide_eq_false_iff_not]
    omega

theorem rep_add {x y : Nat} {a b : Int} (hx : Rep x a) (hy : Rep y b) (h : (a + b).natAbs < 2 ^ 53) :
    ∃ r, floatBits .add .f64 x y = some r ∧ Rep r (a + b) := by
  obtain ⟨_, s, k, e1, n1, p1⟩ := hx
  obtain ⟨_, t, j, e2, n2, p2⟩ := hy
  obtain ⟨r, e, hr⟩ := sum_rep (k := k) (j := j) n1 p1 n2 p2 h
  refine ⟨r, ?_, hr⟩
  show Ieee.double.add x y = _
  unfold Ieee.Format.add
  rw [e1, e2]
  exact e

theorem rep_sub {x y : Nat} {a b : Int} (hx : Rep x a) (hy : Rep y b) (h : (a - b).natAbs < 2 ^ 53) :
    ∃ r, floatBits .sub .f64 x y = some r ∧ Rep r (a - b) := by
  obtain ⟨_, s, k, e1, n1, p1⟩ := hx
  obtain ⟨_, t, j, e2, n2, p2⟩ := hy
  have n3 : -b < 0 → (!t) = true := fun h => by rw [p2 (by omega)]; rfl
  have p3 : 0 < -b → (!t) = false := fun h => by rw [n2 (by omega)]; rfl
  obtain ⟨r, e, hr⟩ := sum_rep (k := k) (j := j) n1 p1 n3 p3 (by rw [← Int.sub_eq_add_neg]; exact h)
  rw [← Int.sub_eq_add_neg] at hr
  refine ⟨r, ?_, hr⟩
  show Ieee.double.sub x y = _
  unfold Ieee.Format.sub
  rw [e1, e2]
  rw [Int.natAbs_neg] at e
  exact e

theorem rep_order {x y : Nat} {a b : Int} (hx : Rep x a) (hy : Rep y b) : FloatKind.f64.format.order x y = some (compare a b) := by
  obtain ⟨_, s, k, e1, n1, p1⟩ := hx
  obtain ⟨_, t, j, e2, n2, p2⟩ := hy
  show Ieee.double.order x y = _
  unfold Ieee.Format.order
  rw [e1, e2]
  simp only [Ieee.Datum.order, base_of, signed_rep s a k _ n1 p1, signed_rep t b j _ n2 p2, up_left, up_right]
  generalize max k j = K
  congr 1
  have hp : (0 : Int) < 2 ^ K := Int.pow_pos (by decide)
  simp only [compare, compareOfLessAndEq]
  rcases Int.lt_trichotomy a b with h | h | h
  · rw [if_pos h, if_pos (Int.mul_lt_mul_of_pos_right h hp)]
  · subst h; simp
  · have h2 := Int.mul_lt_mul_of_pos_right h hp
    rw [if_neg (by omega), if_neg (by omega), if_neg (by omega), if_neg (by omega)]

theorem rep_eq {x y : Nat} {a b : Int} (hx : Rep x a) (hy : Rep y b) : (FloatKind.f64.format.order x y == some .eq) = decide (a = b) := by
  rw [rep_order hx hy]
  simp only [compare, compareOfLessAndEq]
  rcases Int.lt_trichotomy a b with h | h | h
  · rw [if_pos h]; simp; omega
  · subst h; simp
  · rw [if_neg (by omega), if_neg (by omega)]; simp; omega

theorem rep_gt {x y : Nat} {a b : Int} (hx : Rep x a) (hy : Rep y b) : (FloatKind.f64.format.order x y == some .gt) = decide (b < a) := by
  rw [rep_order hx hy]
  simp only [compare, compareOfLessAndEq]
  rcases Int.lt_trichotomy a b with h | h | h
  · rw [if_pos h]; simp; omega
  · subst h; simp
  · rw [if_neg (by omega), if_neg (by omega)]; simp; omega

theorem rep_int (z : Int) (h : z.natAbs < 2 ^ 53) : Rep (floatOfInt .f64 z) z := by
  have e : floatOfInt .f64 z = Ieee.double.nearest (decide (z < 0)) (z.natAbs * 2 ^ 0) (-((0 : Nat) : Int)) := by
    show Ieee.double.nearest _ _ _ = _
    simp
  rw [e]
  exact rep_nearest _ _ _ h (by simp) (by intro h; simp; omega)

theorem rep_neg {x : Nat} {a : Int} (hx : Rep x a) : Rep (x ^^^ 2 ^ 63) (-a) := by
  obtain ⟨h, s, k, e, n, p⟩ := hx
  have hx : x ^^^ 2 ^ 63 = if x < 2 ^ 63 then x + 2 ^ 63 else x - 2 ^ 63 := by
    have hd : x = 2 ^ 63 * (x / 2 ^ 63) + x % 2 ^ 63 := (Nat.div_add_mod ..).symm
    apply Nat.eq_of_testBit_eq
    intro i
    rw [Nat.testBit_xor, Nat.testBit_two_pow]
    split
    · rename_i hlt
      rw [Nat.add_comm x]
      rcases Nat.lt_trichotomy i 63 with hi | hi | hi
      · rw [Nat.testBit_two_pow_add_gt hi, show decide (63 = i) = false by simp; omega, Bool.xor_false]
      · subst hi; rw [Nat.testBit_two_pow_add_eq]; simp
      · rw [Nat.testBit_lt_two_pow (x := x) (Nat.lt_of_lt_of_le hlt (Nat.pow_le_pow_right (by omega) (by omega))),
          Nat.testBit_lt_two_pow (x := 2 ^ 63 + x) (Nat.lt_of_lt_of_le (by omega : 2 ^ 63 + x < 2 ^ 64) (Nat.pow_le_pow_right (by omega) (by omega)))]
        simp; omega
    · rename_i hge
      obtain ⟨y, rfl⟩ : ∃ y, x = 2 ^ 63 + y := ⟨x - 2 ^ 63, by omega⟩
      rw [Nat.add_sub_cancel_left]
      rcases Nat.lt_trichotomy i 63 with hi | hi | hi
      · rw [Nat.testBit_two_pow_add_gt hi, show decide (63 = i) = false by simp; omega, Bool.xor_false]
      · subst hi; rw [Nat.testBit_two_pow_add_eq, Nat.testBit_lt_two_pow (x := y) (by omega)]; simp
      · rw [Nat.testBit_lt_two_pow (x := y) (Nat.lt_of_lt_of_le (by omega : y < 2 ^ 64) (Nat.pow_le_pow_right (by omega) (by omega))),
          Nat.testBit_lt_two_pow (x := 2 ^ 63 + y) (Nat.lt_of_lt_of_le h (Nat.pow_le_pow_right (by omega) (by omega)))]
        simp; omega
  have hs : x / 9223372036854775808 % 2 = 1 ↔ ¬ x < 9223372036854775808 := by omega
  refine ⟨by rw [hx]; split <;> omega, !s, k, ?_, fun h => by rw [p (by omega)]; rfl, fun h => by rw [n (by omega)]; rfl⟩
  rw [Int.natAbs_neg]
  have hflip : Ieee.double.read (x ^^^ 2 ^ 63) = (Ieee.double.read x).opposite := by
    have hm : (x ^^^ 2 ^ 63) % 9223372036854775808 = x % 9223372036854775808 := by rw [hx]; split <;> omega
    have hb : ((x ^^^ 2 ^ 63) / 9223372036854775808 % 2 == 1) = !(x / 9223372036854775808 % 2 == 1) := by
      rw [hx]
      split
      · rename_i hh
        have i1 : (x + 2 ^ 63) / 9223372036854775808 = 1 := by omega
        have i2 : x / 9223372036854775808 = 0 := by omega
        rw [i1, i2]; rfl
      · rename_i hh
        have i1 : (x - 2 ^ 63) / 9223372036854775808 = 0 := by omega
        have i2 : x / 9223372036854775808 = 1 := by omega
        rw [i1, i2]; rfl
    rw [read_def, read_def, hm, hb]
    split
    · rfl
    · split
      · rfl
      · split <;> rfl
  rw [hflip, e]
  rfl

theorem rep_cmul {x y u v : Nat} {a b c d : Int} (hx : Rep x a) (hy : Rep y b) (hu : Rep u c) (hv : Rep v d)
    (h1 : (a * c).natAbs < 2 ^ 53) (h2 : (b * d).natAbs < 2 ^ 53) (h3 : (a * c - b * d).natAbs < 2 ^ 53)
    (h4 : (a * d).natAbs < 2 ^ 53) (h5 : (b * c).natAbs < 2 ^ 53) (h6 : (a * d + b * c).natAbs < 2 ^ 53) :
    ∃ p q, cMulBits x y u v = some (p, q) ∧ Rep p (a * c - b * d) ∧ Rep q (a * d + b * c) := by
  obtain ⟨ac, e1, r1⟩ := rep_mul hx hu h1
  obtain ⟨bd, e2, r2⟩ := rep_mul hy hv h2
  obtain ⟨re, e3, r3⟩ := rep_sub r1 r2 h3
  obtain ⟨ad, e4, r4⟩ := rep_mul hx hv h4
  obtain ⟨bc, e5, r5⟩ := rep_mul hy hu h5
  obtain ⟨im, e6, r6⟩ := rep_add r4 r5 h6
  refine ⟨re, im, ?_, r3, r6⟩
  simp [cMulBits, e1, e2, e3, e4, e5, e6]

theorem rep_one : Rep 4607182418800017408 1 := rep_int 1 (by decide)
theorem rep_zero : Rep 0 0 := rep_int 0 (by decide)
theorem rep_minus_one : Rep 13830554455654793216 (-1) := rep_neg rep_one
end Go.Proofs.YtcioomopgdhlmaaGreatDoor.Hh
/- Contracts of turn's functions and of the law's own small ones. -/
namespace Go.Proofs.YtcioomopgdhlmaaGreatDoor.Hh
open Go.RowKit

/-- The parts of a phase, as words. -/
def phR (q : Nat) : Nat := if q = 0 then 4607182418800017408 else if q = 2 then 13830554455654793216 else 0
def phI (q : Nat) : Nat := if q = 1 then 4607182418800017408 else if q = 3 then 13830554455654793216 else 0
/-- The parts of a phase, as numbers. -/
def qR (q : Nat) : Int := if q = 0 then 1 else if q = 2 then -1 else 0
def qI (q : Nat) : Int := if q = 1 then 1 else if q = 3 then -1 else 0

theorem rep_phR (q : Nat) : Rep (phR q) (qR q) := by
  unfold phR qR
  split
  · exact rep_one
  · split
    · exact rep_minus_one
    · exact rep_zero
theorem rep_phI (q : Nat) : Rep (phI q) (qI q) := by
  unfold phI qI
  split
  · exact rep_one
  · split
    · exact rep_minus_one
    · exact rep_zero

/-- Small enough that no sum of two products by a phase leaves the whole numbers. -/
def Small (a : Int) : Prop := a.natAbs < 2 ^ 50

/-- A number's quarter. -/
def qOf (a b : Int) : Int := if a = 1 ∧ b = 0 then 0 else if a = 0 ∧ b = 1 then 1 else if a = -1 ∧ b = 0 then 2 else if a = 0 ∧ b = -1 then 3 else -1

theorem seq_below {a b c : World} (h : Below a.heap.size a b) (k : Below b.heap.size b c) : Below a.heap.size a c := h.trans (k.mono h.size)

theorem qOf_small {a b : Int} (h : ¬ qOf a b < 0) : a.natAbs ≤ 1 ∧ b.natAbs ≤ 1 := by
  unfold qOf at h
  split at h
  · omega
  · split at h
    · omega
    · split at h
      · omega
      · split at h <;> omega

/-- How many quarters one number lies behind another. -/
def bOf (a b c d : Int) : Int := if qOf a b < 0 ∨ qOf c d < 0 then -1 else qOf (c * a - d * -b) (c * -b + d * a)

theorem mul_small {a b : Int} (ha : a.natAbs ≤ 1) (hb : b.natAbs ≤ 1) : (a * b).natAbs ≤ 1 := by
  rw [Int.natAbs_mul]
  exact Nat.mul_le_mul ha hb

/-- A cycle's black, and what is born in an epoch. -/
def blackOf (e : Nat) : Int := 1 - ((e / 4 % 2 : Nat) : Int)
def bornOf (e : Nat) : Int := if e % 4 = 0 then 1 - blackOf e else blackOf e

theorem cycle_any (e : Nat) (he : e < 18446744073709551616) (w : World) : Calls Tryz.prog 78 #[.int .u64 (e : Nat)] w fun r w' => r = .returned (.int .u64 ((e / 4 : Nat) : Int)) ∧ w = w' := by
  go_enter Tryz.func78, Tryz.ntmps78
  go_wp2
  go_ret
  exact ⟨by simp, rfl⟩

theorem black_any (e : Nat) (he : e < 18446744073709551616) (w : World) : Calls Tryz.prog 54 #[.int .u64 (e : Nat)] w fun r w' => r = .returned (.int .i64 (blackOf e)) ∧ w = w' := by
  go_enter Tryz.func54, Tryz.ntmps54
  go_wp2_with (go_at_call 78; refine (cycle_any e he _).mono ?_; rintro r w1 ⟨rfl, rfl⟩)
  go_ret
  exact ⟨congrArg (fun b => Ending.returned (Value.int .i64 b)) (by unfold blackOf; omega), rfl⟩

theorem black_two (e : Nat) : blackOf e = 0 ∨ blackOf e = 1 := by unfold blackOf; omega

theorem rest_eq (e : Nat) : (FloatKind.f64.format.order (phR (e % 4)) 4607182418800017408 == some .eq && FloatKind.f64.format.order (phI (e % 4)) 0 == some .eq) = decide (e % 4 = 0) := by
  rw [rep_eq (rep_phR _) rep_one, rep_eq (rep_phI _) rep_zero]
  have h4 : e % 4 = 0 ∨ e % 4 = 1 ∨ e % 4 = 2 ∨ e % 4 = 3 := by omega
  rcases h4 with h | h | h | h <;> rw [h] <;> decide

theorem rblack_any (e : Nat) (he : e < 18446744073709551616) (w : World) : Calls Tryz.prog 41 #[.int .u64 (e : Nat)] w fun r w' => r = .returned (.int .i64 (blackOf e)) ∧ w = w' := by
  by_cases h : (e : Int) / 4 % 2 = 0
  · have hb : blackOf e = 1 := by unfold blackOf; omega
    rw [hb]
    go_enter Tryz.func41, Tryz.ntmps41
    go_wp2
    go_ret
    exact ⟨rfl, rfl⟩
  · have hb : blackOf e = 0 := by unfold blackOf; omega
    rw [hb]
    go_enter Tryz.func41, Tryz.ntmps41
    go_wp2
    go_ret
    exact ⟨rfl, rfl⟩

end Go.Proofs.YtcioomopgdhlmaaGreatDoor.Hh
/- Contracts of head's functions. -/
namespace Go.Proofs.YtcioomopgdhlmaaGreatDoor.Hh
open Go.RowKit

/-- The table of widths lies in the first variable's block. -/
def WT (w : World) : Prop := ∀ i, i < 7 → w.cell? ⟨0, i, none⟩ = some (.int .i64 ((wd i : Nat) : Int))

theorem lt_of_cell {w : World} {x : Addr} {v : Value} (h : w.cell? x = some v) : x.block < w.heap.size := by
  unfold World.cell? at h
  split at h
  · rename_i hb
    exact lt_of_block hb
  all_goals simp_all

theorem WT.lt {w : World} (h : WT w) : 0 < w.heap.size := lt_of_cell (h 0 (by omega))
theorem WT.below {w w' : World} (h : WT w) (b : Below w.heap.size w w') : WT w' := fun i hi => (b.cell h.lt).trans (h i hi)

theorem flag_any (b : Bool) (w : World) : Calls Tryz.prog 76 #[.bool b] w fun e w' => e = .returned (.int .i64 (b.toNat : Nat)) ∧ w = w' := by
  cases b
  · go_enter Tryz.func76, Tryz.ntmps76
    go_wp2
    go_ret
    exact ⟨rfl, rfl⟩
  · go_enter Tryz.func76, Tryz.ntmps76
    go_wp2
    go_ret
    exact ⟨rfl, rfl⟩

def kindOk (k : Int) : Bool := decide (0 ≤ k) && decide (k ≤ 4)

theorem isKind_any (k : Int) (w : World) : Calls Tryz.prog 75 #[.int .i64 k] w fun e w' => e = .returned (.bool (kindOk k)) ∧ w = w' := by
  unfold kindOk
  by_cases h : 0 ≤ k
  · go_enter Tryz.func75, Tryz.ntmps75
    go_wp2
    go_ret
    exact ⟨by simp [h], rfl⟩
  · go_enter Tryz.func75, Tryz.ntmps75
    go_wp2
    go_ret
    exact ⟨by have h' : ¬ 0 ≤ k := by omega
              simp [h'], rfl⟩

def usedK (k : Int) : Bool := decide (k = 1) || decide (k = 2)
theorem used_any (k : Int) (w : World) : Calls Tryz.prog 51 #[.int .i64 k] w fun e w' => e = .returned (.bool (usedK k)) ∧ w = w' := by
  unfold usedK
  by_cases h : k = 1
  · subst h
    go_enter Tryz.func51, Tryz.ntmps51
    go_wp2
    go_ret
    exact ⟨rfl, rfl⟩
  · go_enter Tryz.func51, Tryz.ntmps51
    go_wp2
    go_ret
    refine ⟨congrArg (fun b => Ending.returned (Value.bool b)) ?_, rfl⟩
    simp [h]
    rw [show (k == 1) = false by simpa using h]
    rfl

set_option maxHeartbeats 400000 in
theorem hpack_kind (k m : Int) (g : Bool) (a n s : Int) (h : kindOk k = false) (w : World) :
    Calls Tryz.prog 53 #[.agg #[.int .i64 k, .int .i64 m, .bool g, .int .i64 a, .int .i64 n, .int .i64 s]] w fun e w' => e = .returned (.tuple #[.int .u64 0, .bool false]) ∧ Below w.heap.size w w' := by
  have c := isKind_any k
  rw [h] at c
  go_enter Tryz.func53, Tryz.ntmps53
  go_wp2_with (go_at_call 75; refine (c _).mono ?_; rintro e w' ⟨rfl, rfl⟩)
  go_ret2
  exact ⟨rfl, (Below.refl w.heap.size w).alloc (Nat.le_refl _) _⟩

/-- A header in a block. -/
def IsHd (w : World) (b : Nat) (k m : Int) (g : Bool) (a n s : Int) : Prop :=
  w.heap[b]? = some (.cells #[.int .i64 k, .int .i64 m, .bool g, .int .i64 a, .int .i64 n, .int .i64 s] 57 (0, 0))

theorem IsHd.cells {w : World} {b : Nat} {k m : Int} {g : Bool} {a n s : Int} (h : IsHd w b k m g a n s) :
    w.cell? ⟨b, 0, none⟩ = some (.int .i64 k) ∧ w.cell? ⟨b, 1, none⟩ = some (.int .i64 m) ∧ w.cell? ⟨b, 2, none⟩ = some (.bool g) ∧ w.cell? ⟨b, 3, none⟩ = some (.int .i64 a) ∧ w.cell? ⟨b, 4, none⟩ = some (.int .i64 n) ∧ w.cell? ⟨b, 5, none⟩ = some (.int .i64 s) := by
  unfold IsHd at h
  refine ⟨?_, ?_, ?_, ?_, ?_, ?_⟩ <;> simp [World.cell?, h]

theorem ix0 (v0 v1 v2 v3 v4 v5 v6 : Value) (k : IntKind) (w : World) : (Instr.index 100 (.agg #[v0, v1, v2, v3, v4, v5, v6]) (.int k 0)).run Tryz.prog w = .ok v0 w := by kernel_rfl
theorem ix1 (v0 v1 v2 v3 v4 v5 v6 : Value) (k : IntKind) (w : World) : (Instr.index 100 (.agg #[v0, v1, v2, v3, v4, v5, v6]) (.int k 1)).run Tryz.prog w = .ok v1 w := by kernel_rfl
theorem ix2 (v0 v1 v2 v3 v4 v5 v6 : Value) (k : IntKind) (w : World) : (Instr.index 100 (.agg #[v0, v1, v2, v3, v4, v5, v6]) (.int k 2)).run Tryz.prog w = .ok v2 w := by kernel_rfl
theorem ix3 (v0 v1 v2 v3 v4 v5 v6 : Value) (k : IntKind) (w : World) : (Instr.index 100 (.agg #[v0, v1, v2, v3, v4, v5, v6]) (.int k 3)).run Tryz.prog w = .ok v3 w := by kernel_rfl
theorem ix4 (v0 v1 v2 v3 v4 v5 v6 : Value) (k : IntKind) (w : World) : (Instr.index 100 (.agg #[v0, v1, v2, v3, v4, v5, v6]) (.int k 4)).run Tryz.prog w = .ok v4 w := by kernel_rfl
theorem ix5 (v0 v1 v2 v3 v4 v5 v6 : Value) (k : IntKind) (w : World) : (Instr.index 100 (.agg #[v0, v1, v2, v3, v4, v5, v6]) (.int k 5)).run Tryz.prog w = .ok v5 w := by kernel_rfl
theorem ix6 (v0 v1 v2 v3 v4 v5 v6 : Value) (k : IntKind) (w : World) : (Instr.index 100 (.agg #[v0, v1, v2, v3, v4, v5, v6]) (.int k 6)).run Tryz.prog w = .ok v6 w := by kernel_rfl

end Go.Proofs.YtcioomopgdhlmaaGreatDoor.Hh
