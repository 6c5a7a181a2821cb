/- The law of a full table, walked. -/
import Derived.Test.YtnegdabcjnhpdaaRAwake
import Derived.Test.YtnegdabcjnhpdaaPFit
namespace Go.Proofs.Ytnegdabcjnhpdaa
open Go.RowKit
open Mm (Only wordsOf)

def hd1 (x : En) : Nat := if x.2 = -1 then 0 else 1
theorem held_cons (x : En) (A : List En) : heldE (x :: A) = hd1 x + heldE A := by
  unfold heldE hd1
  rw [List.filter_cons]
  by_cases h : x.2 = -1
  · simp [h]
  · simp [h]; omega
theorem held_set (A : List En) (i : Nat) (x : En) (hi : i < A.length) : heldE (A.set i x) + hd1 (A.getD i (0, 0)) = heldE A + hd1 x := by
  induction A generalizing i with
  | nil => simp at hi
  | cons y l ih =>
    cases i with
    | zero => simp [held_cons]; omega
    | succ i =>
      have := ih i (by simpa using hi)
      simp [held_cons] at this ⊢
      omega
theorem held_rep (n : Nat) (t : Nat) : heldE (List.replicate n ((t, -1) : En)) = 0 := by
  unfold heldE
  simp
theorem getD_rep (n : Nat) (x : En) (j : Nat) (hj : j < n) : (List.replicate n x).getD j (0, 0) = x := by simp [List.getD, hj]

/-- What is known of the world within a law over one table. -/
structure Ow (w wr : World) (s a c d g k : Int) (P R : Nat) (t : Tb) : Prop where
  cfg : IsCfg wr w.heap.size s a c d g k
  tab : IsTab wr P R t
  bel : Below w.heap.size w wr
  hP : w.heap.size < P
  hR : w.heap.size < R
theorem Ow.below {w wr w' : World} {s a c d g k : Int} {P R : Nat} {t : Tb} (h : Ow w wr s a c d g k P R t) (b : Below wr.heap.size wr w') : Ow w w' s a c d g k P R t := ⟨h.cfg.below b, h.tab.below b, h.bel.trans (b.mono h.bel.size), h.hP, h.hR⟩
theorem Ow.chg {w wr w' : World} {s a c d g k : Int} {P R : Nat} {t t' : Tb} (h : Ow w wr s a c d g k P R t) (x : Chg [R] wr w') (ht : IsTab w' P R t') : Ow w w' s a c d g k P R t' :=
  ⟨h.cfg.chg x (by have := h.hR; simp; omega), ht, x.below h.bel (by have := h.hR; simp; omega) (Nat.le_refl _), h.hP, h.hR⟩
theorem Ow.drew {w wr : World} {s a c d g k : Int} {P R : Nat} {t : Tb} (h : Ow w wr s a c d g k P R t) : Ow w wr.drew s a c d g k P R t := h.below (Below.refl _ _).drew

/-- The first so many entries hold something. -/
structure Upto (A : List En) (n i : Nat) : Prop where
  len : A.length = n
  lo : ∀ j, j < i → (A.getD j (0, 0)).1 = 1 ∧ (A.getD j (0, 0)).2 ≠ -1
  hi : ∀ j, i ≤ j → j < n → A.getD j (0, 0) = (0, -1)
  held : heldE A = i
theorem frE_no {x : En} (h : x.2 ≠ -1) : frE x = false := by simp [frE, h]
theorem Upto.first {A : List En} {n i : Nat} (h : Upto A n i) (hi : i < n) : ff A = some i :=
  ff_is (by rw [h.len]; exact hi) (by rw [h.hi i (Nat.le_refl _) hi]; rfl) (fun j hj => frE_no (h.lo j hj).2)
theorem Upto.noff {A : List En} {n : Nat} (h : Upto A n n) : ff A = none :=
  ff_nil (fun j hj => frE_no (h.lo j (by rw [h.len] at hj; exact hj)).2)
theorem getD_setE (A : List En) (i : Nat) (x : En) (j : Nat) : (A.set i x).getD j (0, 0) = if i = j ∧ i < A.length then x else A.getD j (0, 0) := by
  simp only [List.getD_eq_getElem?_getD]
  rw [List.getElem?_set]
  by_cases h : i = j
  · subst h
    by_cases hi : i < A.length <;> simp [hi]
  · simp [h]
theorem Upto.next {A : List En} {n i : Nat} (h : Upto A n i) (hi : i < n) (sl : Nat) : Upto (A.set i (1, (sl : Int))) n (i + 1) := by
  have hl : i < A.length := by rw [h.len]; exact hi
  refine ⟨by simp [h.len], fun j hj => ?_, fun j h1 h2 => ?_, ?_⟩
  · rw [getD_setE]
    split
    · exact ⟨rfl, by show (sl : Int) ≠ -1; omega⟩
    · exact h.lo j (by omega)
  · rw [getD_setE, if_neg (by omega)]
    exact h.hi j (by omega) h2
  · have e := held_set A i (1, (sl : Int)) hl
    rw [h.hi i (Nat.le_refl _) hi, h.held] at e
    have e1 : hd1 ((0, -1) : En) = 0 := rfl
    have e2 : hd1 ((1, (sl : Int)) : En) = 1 := by unfold hd1; rw [if_neg (by show ¬ (sl : Int) = -1; omega)]
    omega
/-- With one entry dropped, and taken again. -/
theorem Upto.dropped {A : List En} {n k : Nat} (h : Upto A n n) (hk : k < n) : ff (A.set k (1, -1)) = some k ∧ heldE (A.set k (1, -1)) = n - 1 ∧ (A.set k (1, -1)).getD k (0, 0) = (1, -1) ∧ ff ((A.set k (1, -1)).set k (2, 0)) = none := by
  have hl : k < A.length := by rw [h.len]; exact hk
  refine ⟨?_, ?_, ?_, ?_⟩
  · refine ff_is (by simpa using hl) (by rw [getD_setE, if_pos ⟨rfl, hl⟩]; rfl) fun j hj => ?_
    rw [getD_setE, if_neg (by omega)]
    exact frE_no (h.lo j (by omega)).2
  · have e := held_set A k (1, -1) hl
    have e1 : hd1 ((1, -1) : En) = 0 := rfl
    have e2 : hd1 (A.getD k (0, 0)) = 1 := by unfold hd1; rw [if_neg (h.lo k hk).2]
    have := h.held
    omega
  · rw [getD_setE, if_pos ⟨rfl, hl⟩]
  · refine ff_nil fun j hj => ?_
    rw [getD_setE]
    split
    · rfl
    · rename_i hn
      rw [getD_setE]
      split
      · rename_i hm; exact absurd ⟨hm.1, by simpa using hm.2⟩ hn
      · exact frE_no (h.lo j (by simp at hj; rw [h.len] at hj; exact hj)).2

end Go.Proofs.Ytnegdabcjnhpdaa
