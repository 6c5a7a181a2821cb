/- Plain facts on the words of a config, one behind the other: no program in sight. -/
import Derived.Test.YtjbjijkkmlehgaaDoorPPlaces
namespace Go.Proofs.YtjbjijkkmlehgaaDoor

/-- Which word stands at a place: its kind, whose it is, which (C clients, D handles, B words of a body). -/
def wat (C D B p : Nat) : Nat × Nat × Nat :=
  if p < 4 then (p, 0, 0)
  else if p < 4 + C then (4, p - 4, 0)
  else if p < 4 + C + C * D then (5, (p - (4 + C)) / D, (p - (4 + C)) % D)
  else if p < 4 + C + C * D + 2 * C then (6 + (p - (4 + C + C * D)) % 2, (p - (4 + C + C * D)) / 2, 0)
  else (if (p - (4 + C + C * D + 2 * C)) % (2 + B) = 0 then 8 else if (p - (4 + C + C * D + 2 * C)) % (2 + B) = 1 then 9 else 10, (p - (4 + C + C * D + 2 * C)) / (2 + B), (p - (4 + C + C * D + 2 * C)) % (2 + B) - 2)

/-- Where a word stands. -/
def pos (C D B : Nat) (t : Nat × Nat × Nat) : Nat :=
  if t.1 < 4 then t.1
  else if t.1 = 4 then 4 + t.2.1
  else if t.1 = 5 then 4 + C + t.2.1 * D + t.2.2
  else if t.1 = 6 then 4 + C + C * D + 2 * t.2.1
  else if t.1 = 7 then 4 + C + C * D + 2 * t.2.1 + 1
  else if t.1 = 8 then 4 + C + C * D + 2 * C + t.2.1 * (2 + B)
  else if t.1 = 9 then 4 + C + C * D + 2 * C + t.2.1 * (2 + B) + 1
  else 4 + C + C * D + 2 * C + t.2.1 * (2 + B) + 2 + t.2.2

theorem wat_0 (C D B p : Nat) (h : p < 4) : wat C D B p = (p, 0, 0) := by unfold wat; rw [if_pos h]
theorem wat_1 (C D B p : Nat) (h : 4 ≤ p) (h2 : p < 4 + C) : wat C D B p = (4, p - 4, 0) := by
  unfold wat; rw [if_neg (by omega), if_pos h2]
theorem wat_2 (C D B p : Nat) (h : 4 + C ≤ p) (h2 : p < 4 + C + C * D) : wat C D B p = (5, (p - (4 + C)) / D, (p - (4 + C)) % D) := by
  unfold wat; rw [if_neg (by omega), if_neg (by omega), if_pos h2]
theorem wat_3 (C D B p : Nat) (h : 4 + C + C * D ≤ p) (h2 : p < 4 + C + C * D + 2 * C) : wat C D B p = (6 + (p - (4 + C + C * D)) % 2, (p - (4 + C + C * D)) / 2, 0) := by
  unfold wat; rw [if_neg (by omega), if_neg (by omega), if_neg (by omega), if_pos h2]
theorem wat_4 (C D B p : Nat) (h : 4 + C + C * D + 2 * C ≤ p) : wat C D B p = (if (p - (4 + C + C * D + 2 * C)) % (2 + B) = 0 then 8 else if (p - (4 + C + C * D + 2 * C)) % (2 + B) = 1 then 9 else 10, (p - (4 + C + C * D + 2 * C)) / (2 + B), (p - (4 + C + C * D + 2 * C)) % (2 + B) - 2) := by
  unfold wat; rw [if_neg (by omega), if_neg (by omega), if_neg (by omega), if_neg (by omega)]

theorem pos_wat (C D B p : Nat) : pos C D B (wat C D B p) = p := by
  by_cases h0 : p < 4
  · rw [wat_0 C D B p h0]; unfold pos; rw [if_pos h0]
  by_cases h1 : p < 4 + C
  · rw [wat_1 C D B p (by omega) h1]; simp [pos]; omega
  by_cases h2 : p < 4 + C + C * D
  · rw [wat_2 C D B p (by omega) h2]; simp [pos]
    have := Nat.div_add_mod (p - (4 + C)) D
    rw [Nat.mul_comm] at this
    omega
  by_cases h3 : p < 4 + C + C * D + 2 * C
  · rw [wat_3 C D B p (by omega) h3]
    have hm : (p - (4 + C + C * D)) % 2 = 0 ∨ (p - (4 + C + C * D)) % 2 = 1 := by omega
    rcases hm with hm | hm <;> rw [hm] <;> simp [pos] <;> omega
  rw [wat_4 C D B p (by omega)]
  have hd := Nat.div_add_mod' (p - (4 + C + C * D + 2 * C)) (2 + B)
  generalize hr : (p - (4 + C + C * D + 2 * C)) % (2 + B) = r at *
  generalize (p - (4 + C + C * D + 2 * C)) / (2 + B) = q at *
  by_cases r0 : r = 0
  · subst r0; simp [pos]; omega
  by_cases r1 : r = 1
  · subst r1; simp [pos]; omega
  rw [if_neg r0, if_neg r1]; simp [pos]; omega

theorem wat_pin (C D B k : Nat) (h : k < C) : wat C D B (4 + k) = (4, k, 0) := by
  rw [wat_1 C D B _ (by omega) (by omega)]; simp
theorem mul_lt (C D k i : Nat) (h : k < C) (hi : i < D) : k * D + i < C * D := by
  have : (k + 1) * D ≤ C * D := Nat.mul_le_mul_right D h
  rw [Nat.succ_mul] at this; omega
theorem dm_div (D k i : Nat) (hi : i < D) : (k * D + i) / D = k ∧ (k * D + i) % D = i := by
  constructor
  · rw [Nat.mul_comm, Nat.mul_add_div (by omega), Nat.div_eq_of_lt hi]; omega
  · rw [Nat.mul_comm, Nat.mul_add_mod, Nat.mod_eq_of_lt hi]
theorem wat_entry (C D B k i : Nat) (h : k < C) (hi : i < D) : wat C D B (4 + C + k * D + i) = (5, k, i) := by
  have h1 := mul_lt C D k i h hi
  have h2 := dm_div D k i hi
  rw [wat_2 C D B _ (by omega) (by omega), show 4 + C + k * D + i - (4 + C) = k * D + i by omega, h2.1, h2.2]
theorem wat_view (C D B k : Nat) (h : k < C) : wat C D B (4 + C + C * D + 2 * k) = (6, k, 0) := by
  rw [wat_3 C D B _ (by omega) (by omega), show 4 + C + C * D + 2 * k - (4 + C + C * D) = 2 * k by omega]
  simp
theorem wat_start (C D B k : Nat) (h : k < C) : wat C D B (4 + C + C * D + 2 * k + 1) = (7, k, 0) := by
  rw [wat_3 C D B _ (by omega) (by omega), show 4 + C + C * D + 2 * k + 1 - (4 + C + C * D) = 2 * k + 1 by omega]
  have : (2 * k + 1) % 2 = 1 ∧ (2 * k + 1) / 2 = k := by omega
  rw [this.1, this.2]
theorem wat_slot (C D B k i : Nat) (hi : i < 2 + B) : wat C D B (4 + C + C * D + 2 * C + k * (2 + B) + i) = (if i = 0 then 8 else if i = 1 then 9 else 10, k, i - 2) := by
  have h2 := dm_div (2 + B) k i hi
  rw [wat_4 C D B _ (by omega), show 4 + C + C * D + 2 * C + k * (2 + B) + i - (4 + C + C * D + 2 * C) = k * (2 + B) + i by omega, h2.1, h2.2]

/-- How many words there are. -/
def nW (C D B S : Nat) : Nat := 4 + C + C * D + 2 * C + S * (2 + B)

theorem wat_inv {C D B p : Nat} {t : Nat × Nat × Nat} (h : wat C D B p = t) : p = pos C D B t := by rw [← h, pos_wat]

/-- Whose numbers a word of each kind may have. -/
theorem wat_pin_b {C D B p k i : Nat} (h : wat C D B p = (4, k, i)) : k < C ∧ i = 0 := by
  have hp := wat_inv h
  have hp' : p = 4 + k := by simpa [pos] using hp
  by_cases h0 : k < C
  · subst hp'; rw [wat_pin C D B k h0] at h; simp at h; exact ⟨h0, h.symm⟩
  · exfalso
    by_cases h2 : p < 4 + C + C * D
    · rw [wat_2 C D B p (by omega) h2] at h; simp at h
    by_cases h3 : p < 4 + C + C * D + 2 * C
    · rw [wat_3 C D B p (by omega) h3] at h; simp at h; omega
    rw [wat_4 C D B p (by omega)] at h
    simp at h
    have := h.1
    split at this <;> (try omega)
    split at this <;> omega
theorem kind_range {C D B p : Nat} : (p < 4 ∧ (wat C D B p).1 = p) ∨ (4 ≤ p ∧ p < 4 + C ∧ (wat C D B p).1 = 4) ∨ (4 + C ≤ p ∧ p < 4 + C + C * D ∧ (wat C D B p).1 = 5) ∨ (4 + C + C * D ≤ p ∧ p < 4 + C + C * D + 2 * C ∧ ((wat C D B p).1 = 6 ∨ (wat C D B p).1 = 7)) ∨ (4 + C + C * D + 2 * C ≤ p ∧ ((wat C D B p).1 = 8 ∨ (wat C D B p).1 = 9 ∨ (wat C D B p).1 = 10)) := by
  by_cases h0 : p < 4
  · left; rw [wat_0 C D B p h0]; exact ⟨h0, rfl⟩
  right
  by_cases h1 : p < 4 + C
  · left; rw [wat_1 C D B p (by omega) h1]; exact ⟨by omega, h1, rfl⟩
  right
  by_cases h2 : p < 4 + C + C * D
  · left; rw [wat_2 C D B p (by omega) h2]; exact ⟨by omega, h2, rfl⟩
  right
  by_cases h3 : p < 4 + C + C * D + 2 * C
  · left; rw [wat_3 C D B p (by omega) h3]; refine ⟨by omega, h3, ?_⟩; show 6 + _ = 6 ∨ 6 + _ = 7; omega
  right
  rw [wat_4 C D B p (by omega)]
  refine ⟨by omega, ?_⟩
  show (if _ then 8 else if _ then 9 else 10) = 8 ∨ _ ∨ _
  split
  · left; rfl
  · split
    · right; left; rfl
    · right; right; rfl
end Go.Proofs.YtjbjijkkmlehgaaDoor
