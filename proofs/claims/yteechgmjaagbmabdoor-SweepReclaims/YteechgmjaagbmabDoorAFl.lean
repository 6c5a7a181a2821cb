/- A Free alone, step by step: no program in sight. -/
import Derived.Test.YteechgmjaagbmabDoorAAlone
namespace Go.Proofs.YteechgmjaagbmabDoor
open Go.RowKit
open Mm (MS touched)
open Tg (movedW)
open Hh (okW wordOf)
set_option linter.unusedVariables false

theorem frX_0 {K : Cf} {X : List Nat} {f : Fr} (h : f.pc = 0) : frX K X f = (X, { f with fd := fdW (X.getD (K.hd f.q.sl) 0) K.g, pc := if limboW (X.getD (K.hd f.q.sl) 0) = true then 1 else 3 }) := by unfold frX; rw [if_pos h]
theorem frX_1 {K : Cf} {X : List Nat} {f : Fr} (h : f.pc = 1) : frX K X f = (X.set (K.hd f.q.sl) f.fd, if kdW f.fd = 4 then { f with gone := true, pc := 3 } else { f with pc := 2 }) := by unfold frX; rw [if_neg (by omega), if_pos h]
theorem frX_2 {K : Cf} {X : List Nat} {f : Fr} (h : f.pc = 2) : frX K X f = ((pushX K X f.q).1, if (pushX K X f.q).2.pc = 3 then { f with q := (pushX K X f.q).2, back := true, pc := 3 } else { f with q := (pushX K X f.q).2 }) := by unfold frX; rw [if_neg (by omega), if_neg (by omega), if_pos h]

/-- A Free alone under way: the word that the header had, the list. -/
def FlAt (K : Cf) (tag W s : Nat) (F : List Nat) (X : List Nat) (f : Fr) : Prop :=
  f.q.sl = s ∧ f.back = false ∧ f.gone = false ∧ Top K X tag F ∧ QInv K X tag f.q ∧
  ((f.pc = 0 ∧ f.q.pc = 0 ∧ X.getD (K.hd s) 0 = W) ∨
   (f.pc = 1 ∧ f.q.pc = 0 ∧ limboW W = true ∧ f.fd = fdW W K.g) ∨
   (f.pc = 2 ∧ f.q.pc ≤ 2 ∧ (1 ≤ f.q.pc → X.getD 3 0 = f.q.tp) ∧ limboW W = true ∧ kdW (fdW W K.g) ≠ 4 ∧ X.getD (K.hd s) 0 = fdW W K.g))
/-- How many steps are left, at most. -/
def Fr.left (f : Fr) : Nat := if f.pc = 0 then 5 else if f.pc = 1 then 4 else 3 - f.q.pc
/-- What it comes to. -/
def FlEnd (K : Cf) (tag W s : Nat) (F : List Nat) (X : List Nat) (f : Fr) : Prop :=
  (limboW W = false ∧ f.back = false ∧ f.gone = false ∧ X.getD (K.hd s) 0 = W ∧ Top K X tag F) ∨
  (limboW W = true ∧ kdW (fdW W K.g) = 4 ∧ f.back = false ∧ f.gone = true ∧ X.getD (K.hd s) 0 = fdW W K.g ∧ Top K X tag F) ∨
  (limboW W = true ∧ kdW (fdW W K.g) ≠ 4 ∧ f.back = true ∧ f.gone = false ∧ X.getD (K.hd s) 0 = fdW W K.g ∧ Top K X (tag + 1) (s :: F))
theorem FlAt.step {K : Cf} (hK : K.Ok) {tag W s : Nat} {F X : List Nat} {f : Fr} (h : FlAt K tag W s F X f) (hs : s ∉ F) (hsS : s < K.S) (ht : tag + 1 < 281474976710656) :
    f.pc ≤ 2 ∧ (((frX K X f).2.pc = 3 ∧ FlEnd K tag W s F (frX K X f).1 (frX K X f).2) ∨ ((frX K X f).2.pc ≠ 3 ∧ FlAt K tag W s F (frX K X f).1 (frX K X f).2 ∧ (frX K X f).2.left < f.left)) := by
  have hN := K.hd_lt hsS
  have h4 := K.hd_4 s
  obtain ⟨h1, h2, h3, h5, h6, h7⟩ := h
  rcases h7 with ⟨a1, a2, a3⟩ | ⟨a1, a2, a3, a4⟩ | ⟨a1, a2, a3, a4, a5, a6⟩
  · refine ⟨by omega, ?_⟩
    rw [frX_0 a1, h1, a3]
    by_cases hl : limboW W = true
    · right
      rw [if_pos hl]
      refine ⟨by show 1 ≠ 3; omega, ⟨h1, h2, h3, h5, h6, .inr (.inl ⟨rfl, a2, hl, rfl⟩)⟩, ?_⟩
      unfold Fr.left
      rw [if_pos a1, if_neg (by show ¬ 1 = 0; omega), if_pos rfl]
      omega
    · left
      rw [if_neg hl]
      exact ⟨rfl, .inl ⟨by simpa using hl, h2, h3, a3, h5⟩⟩
  · refine ⟨by omega, ?_⟩
    rw [frX_1 a1, h1, a4]
    have tp := h5.other (i := K.hd s) (by omega) (fun t => K.hd_lk _ _) (fdW W K.g)
    have e1 : (X.set (K.hd s) (fdW W K.g)).getD (K.hd s) 0 = fdW W K.g := by rw [getD_set, if_pos ⟨rfl, by rw [h5.len]; exact hN⟩]
    by_cases hk : kdW (fdW W K.g) = 4
    · left
      rw [if_pos hk]
      exact ⟨rfl, .inr (.inl ⟨a3, hk, h2, rfl, e1, tp⟩)⟩
    · right
      rw [if_neg hk]
      refine ⟨by show 2 ≠ 3; omega, ⟨h1, h2, h3, tp, ?_, .inr (.inr ⟨rfl, by show f.q.pc ≤ 2; omega, (fun h => by have : 1 ≤ f.q.pc := h; omega), a3, hk, e1⟩)⟩, ?_⟩
      · exact h6.other (H := []) (.inr (.inr (.inl ⟨_, _, by omega, fun t => K.hd_lk _ _, rfl, rfl⟩))) (by simp)
      · have e0 : f.left = 4 := by unfold Fr.left; rw [if_neg (by omega), if_pos a1]
        rw [e0]
        unfold Fr.left
        rw [if_neg (by show ¬ 2 = 0; omega), if_neg (by show ¬ 2 = 1; omega)]
        omega
  · refine ⟨by omega, ?_⟩
    rw [frX_2 a1]
    have hl0 : f.left = 3 - f.q.pc := by unfold Fr.left; rw [if_neg (by omega), if_neg (by omega)]
    have hh3 : K.hd s ≠ 3 := by omega
    rcases pushCases hK h5 h6 (by rw [h1]; exact hs) (by rw [h1]; exact hsS) ht with ⟨b1, b2, b3, b4, b5⟩ | ⟨b1, ⟨v, b2⟩, b3⟩
    · right
      simp only [if_neg (show ¬ (pushX K X f.q).2.pc = 3 by omega)]
      have e1 : (pushX K X f.q).1.getD (K.hd s) 0 = X.getD (K.hd s) 0 := by
        rcases b5 with e | ⟨v, e⟩
        · rw [e]
        · rw [e, getD_set, if_neg (fun h => K.hd_lk s f.q.sl h.1.symm)]
      rcases (show f.q.pc = 0 ∨ f.q.pc = 1 ∨ f.q.pc = 2 by omega) with e | e | e
      · have ep := pushX_0 (K := K) (X := X) e
        rw [ep] at b1 b2 b3 b4 e1 ⊢
        refine ⟨by show f.pc ≠ 3; omega, ⟨h1, h2, h3, b4, b3, .inr (.inr ⟨a1, by show 1 ≤ 2; omega, fun _ => rfl, a4, a5, a6⟩)⟩, ?_⟩
        rw [hl0]
        unfold Fr.left
        rw [if_neg (by show ¬ f.pc = 0; omega), if_neg (by show ¬ f.pc = 1; omega)]
        show 3 - 1 < 3 - f.q.pc
        omega
      · have ep := pushX_1 (K := K) (X := X) e
        have hT := a3 (by omega)
        rw [ep] at b1 b2 b3 b4 e1 ⊢
        refine ⟨by show f.pc ≠ 3; omega, ⟨h1, h2, h3, b4, b3, .inr (.inr ⟨a1, by show 2 ≤ 2; omega, fun _ => ?_, a4, a5, e1.trans a6⟩)⟩, ?_⟩
        · show (X.set (K.lk f.q.sl) _).getD 3 0 = f.q.tp
          rw [getD_set, if_neg (by have := K.lk_4 f.q.sl; omega)]
          exact hT
        · rw [hl0]
          unfold Fr.left
          rw [if_neg (by show ¬ f.pc = 0; omega), if_neg (by show ¬ f.pc = 1; omega)]
          show 3 - 2 < 3 - f.q.pc
          omega
      · have ep := pushX_2 (K := K) (X := X) e (a3 (by omega))
        rw [ep] at b1
        have : 3 ≤ 2 := b1
        omega
    · left
      rw [if_pos b1]
      refine ⟨rfl, .inr (.inr ⟨a4, a5, rfl, h3, ?_, by rw [h1] at b3; exact b3⟩)⟩
      show (pushX K X f.q).1.getD (K.hd s) 0 = _
      rw [b2, getD_set, if_neg (by omega)]
      exact a6

end Go.Proofs.YteechgmjaagbmabDoor
