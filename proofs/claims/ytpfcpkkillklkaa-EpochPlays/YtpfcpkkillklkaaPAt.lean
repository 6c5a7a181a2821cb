/- The contract of the reference's At: a word's place. -/
import Derived.Test.YtpfcpkkillklkaaPWords
namespace Go.Proofs.Ytpfcpkkillklkaa
open Go.RowKit

/-- A word in a block of its own. -/
def IsWd (w : World) (B : Nat) (n : ByteArray) (x y : Int) : Prop := w.heap[B]? = some (.cells #[.string n, .int .i64 x, .int .i64 y] 0 (0, 0))
theorem IsWd.below {w w' : World} {B : Nat} {n : ByteArray} {x y : Int} (h : IsWd w B n x y) (b : Below w.heap.size w w') : IsWd w' B n x y := by
  show w'.heap[B]? = _
  rw [b.block B (lt_of_block h)]; exact h
theorem IsWd.cells {w : World} {B : Nat} {n : ByteArray} {x y : Int} (h : IsWd w B n x y) : w.cell? ⟨B, 0, none⟩ = some (.string n) ∧ w.cell? ⟨B, 1, none⟩ = some (.int .i64 x) ∧ w.cell? ⟨B, 2, none⟩ = some (.int .i64 y) := by
  have h' : w.heap[B]? = _ := h
  refine ⟨?_, ?_, ?_⟩ <;> simp [World.cell?, h']

/-- The word at a place is the one that is meant. -/
def mt (C D B : Nat) (n : ByteArray) (x y : Int) (p : Nat) : Prop := (nb (wat C D B p).1).toList = n.toList ∧ ((wat C D B p).2.1 : Int) = x ∧ ((wat C D B p).2.2 : Int) = y

theorem eq3_yes {P Q R : Prop} [Decidable P] [Decidable Q] [Decidable R] {α : Type} {x y : α} (h : P ∧ Q ∧ R) : (if P then if Q then if R then x else y else y else y) = x := by rw [if_pos h.1, if_pos h.2.1, if_pos h.2.2]
theorem eq3_no {P Q R : Prop} [Decidable P] [Decidable Q] [Decidable R] {α : Type} {x y : α} (h : ¬ (P ∧ Q ∧ R)) : (if P then if Q then if R then x else y else y else y) = y := by
  by_cases h1 : P
  · rw [if_pos h1]
    by_cases h2 : Q
    · rw [if_pos h2, if_neg (fun h3 => h ⟨h1, h2, h3⟩)]
    · rw [if_neg h2]
  · rw [if_neg h1]

theorem nb_inj {i j : Nat} (hi : i ≤ 10) (hj : j ≤ 10) (h : (nb i).toList = (nb j).toList) : i = j := by
  have key : ∀ a b : Fin 11, (nb a.1).toList = (nb b.1).toList → a = b := by decide +kernel
  have := key ⟨i, by omega⟩ ⟨j, by omega⟩ h
  exact Fin.mk.inj this

theorem wat_le (C D B p : Nat) : (wat C D B p).1 ≤ 10 := by
  rcases kind_range (C := C) (D := D) (B := B) (p := p) with h | h | h | h | h <;> omega

/-- Whose numbers a word of each kind has. -/
theorem wat_b {C D B S p : Nat} (hD : 1 ≤ D) (hp : p < nW C D B S) :
    ((wat C D B p).1 < 4 ∨ (((wat C D B p).1 = 4 ∨ (wat C D B p).1 = 6 ∨ (wat C D B p).1 = 7) ∧ (wat C D B p).2.1 < C ∧ (wat C D B p).2.2 = 0) ∨ ((wat C D B p).1 = 5 ∧ (wat C D B p).2.1 < C ∧ (wat C D B p).2.2 < D) ∨ (((wat C D B p).1 = 8 ∨ (wat C D B p).1 = 9) ∧ (wat C D B p).2.1 < S ∧ (wat C D B p).2.2 = 0) ∨ ((wat C D B p).1 = 10 ∧ (wat C D B p).2.1 < S ∧ (wat C D B p).2.2 < B)) := by
  by_cases h0 : p < 4
  · left; rw [wat_0 C D B p h0]; exact h0
  right
  by_cases h1 : p < 4 + C
  · left; rw [wat_1 C D B p (by omega) h1]; exact ⟨.inl rfl, by show p - 4 < C; omega, rfl⟩
  by_cases h2 : p < 4 + C + C * D
  · right; left; rw [wat_2 C D B p (by omega) h2]
    exact ⟨rfl, Nat.div_lt_of_lt_mul (by rw [Nat.mul_comm]; omega), Nat.mod_lt _ hD⟩
  by_cases h3 : p < 4 + C + C * D + 2 * C
  · left; rw [wat_3 C D B p (by omega) h3]
    refine ⟨?_, ?_, rfl⟩
    · show 6 + _ = 4 ∨ 6 + _ = 6 ∨ 6 + _ = 7; omega
    · show (p - (4 + C + C * D)) / 2 < C; omega
  right; right
  rw [wat_4 C D B p (by omega)]
  have hq : (p - (4 + C + C * D + 2 * C)) / (2 + B) < S := Nat.div_lt_of_lt_mul (by unfold nW at hp; rw [Nat.mul_comm (2 + B) S]; omega)
  have hr := Nat.mod_lt (p - (4 + C + C * D + 2 * C)) (show 0 < 2 + B by omega)
  generalize (p - (4 + C + C * D + 2 * C)) % (2 + B) = r at *
  by_cases r0 : r = 0
  · left; subst r0; exact ⟨.inl rfl, hq, rfl⟩
  by_cases r1 : r = 1
  · left; subst r1; exact ⟨.inr rfl, hq, rfl⟩
  right
  rw [if_neg r0, if_neg r1]
  exact ⟨rfl, hq, by show r - 2 < B; omega⟩

end Go.Proofs.Ytpfcpkkillklkaa
