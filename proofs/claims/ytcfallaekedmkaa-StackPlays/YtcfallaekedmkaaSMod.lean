/- A machine's step as a function of the words and of what the machine holds; the contracts of both Steps by it. -/
import Derived.Test.YtcfallaekedmkaaSPush
namespace Go.Proofs.Ytcfallaekedmkaa
open Go.RowKit
open Mm (IsMem MS touched Only)
open Tg (movedW)

/-- What a Pop holds. -/
structure PS where
  sl : Int
  em : Bool
  pc : Nat
  tp : Nat
  nx : Int
/-- What a Push holds. -/
structure QS where
  sl : Nat
  pc : Nat
  tp : Nat

def popStep (K : Cf) (m : MS) (p : PS) : MS × PS :=
  if p.pc = 0 then
    (touched m 1 3 (m.X.getD 3 0), ⟨p.sl, if fst K.S (m.X.getD 3 0) = -1 then true else p.em, if fst K.S (m.X.getD 3 0) = -1 then 3 else 1, m.X.getD 3 0, p.nx⟩)
  else if p.pc = 1 then
    (touched m 1 (K.lk (fst K.S p.tp).toNat) (m.X.getD (K.lk (fst K.S p.tp).toNat) 0), ⟨p.sl, p.em, 2, p.tp, nmd K.S (m.X.getD (K.lk (fst K.S p.tp).toNat) 0)⟩)
  else if p.pc = 2 then
    if m.X.getD 3 0 = p.tp then (touched m 3 3 (movedW p.tp p.nx), ⟨fst K.S p.tp, p.em, 3, p.tp, p.nx⟩)
    else (touched m 3 3 (m.X.getD 3 0), ⟨p.sl, p.em, 0, p.tp, p.nx⟩)
  else (m, p)

def pushStep (K : Cf) (m : MS) (q : QS) : MS × QS :=
  if q.pc = 0 then (touched m 1 3 (m.X.getD 3 0), ⟨q.sl, 1, m.X.getD 3 0⟩)
  else if q.pc = 1 then (touched m 2 (K.lk q.sl) (fst K.S q.tp + 1).toNat, ⟨q.sl, 2, q.tp⟩)
  else if q.pc = 2 then
    if m.X.getD 3 0 = q.tp then (touched m 3 3 (movedW q.tp q.sl), ⟨q.sl, 3, q.tp⟩)
    else (touched m 3 3 (m.X.getD 3 0), ⟨q.sl, 0, q.tp⟩)
  else (m, q)

def IsPopS (w : World) (P : Nat) (K : Cf) (p : PS) : Prop := IsPop w P K.S K.a K.C K.D K.g K.k p.sl p.em (p.pc : Nat) p.tp p.nx
def IsPushS (w : World) (P : Nat) (K : Cf) (q : QS) : Prop := IsPush w P K.S K.a K.C K.D K.g K.k (q.sl : Nat) (q.pc : Nat) q.tp

/-- What keeps a Pop's next step from falling. -/
structure PWf (K : Cf) (p : PS) : Prop where
  pc : p.pc ≤ 3
  tp : p.tp < 18446744073709551616
  one : p.pc = 1 → fst K.S p.tp ≠ -1
structure QWf (K : Cf) (q : QS) : Prop where
  pc : q.pc ≤ 3
  tp : q.tp < 18446744073709551616
  sl : q.sl < K.S

theorem movedW_lt (W : Nat) (s : Int) : movedW W s < 18446744073709551616 := by
  have := Tg.sl_le s
  unfold movedW
  omega

theorem fst_cases (S t : Nat) : fst S t = -1 ∨ ∃ s : Nat, s < S ∧ fst S t = (s : Int) ∧ t % 65536 = s + 1 := nmd_cases S _

theorem MS.word_lt {w : World} {M G : Nat} {m : MS} (h : IsMem w M G m) (i : Nat) : m.X.getD i 0 < 18446744073709551616 := h.word_lt i

theorem popStep_any {K : Cf} (hK : K.Ok) {M G P : Nat} {m : MS} {w : World} {p : PS} (hm : IsMem w M G m) (hp : IsPopS w P K p) (h1 : P ≠ M) (h2 : P ≠ G) (hX : m.X.length = K.N) (ht : 0 ≤ m.t ∧ m.t < 4611686018427387904) (hw : PWf K p) :
    Calls Try.prog 21 #[.pointer (some ⟨P, 0, none⟩), .pointer (some ⟨M, 0, none⟩)] w fun e w' =>
      e = .returned (.bool (decide ((popStep K m p).2.pc = 3))) ∧ IsMem w' M G (popStep K m p).1 ∧ IsPopS w' P K (popStep K m p).2 ∧ Chg [P, M, G] w w' := by
  have hN := hK.N_b
  obtain ⟨sl, em, pc, tp, nx⟩ := p
  obtain ⟨hpc, htp, hone⟩ := hw
  simp only at hpc htp hone
  have hd : ∀ n : Nat, decide (((n : Nat) : Int) = 3) = decide (n = 3) := fun n => decide_eq_decide.2 (by omega)
  match pc, hpc with
  | 0, _ =>
    have c1 := first_any K.S hK.s64 K.a K.C K.D K.g K.k (m.X.getD 3 0) (hm.word_lt 3)
    have h := step_0 hp (loadTop_at hm hp h1 h2 (by omega) ht rfl c1)
    have e : (if fst K.S (m.X.getD 3 0) = -1 then (3 : Int) else 1) = ((if fst K.S (m.X.getD 3 0) = -1 then 3 else 1 : Nat) : Int) := by split <;> rfl
    rw [e, hd] at h
    exact h
  | 1, _ =>
    rcases fst_cases K.S tp with h0 | ⟨s, hs, h0, _⟩
    · exact absurd h0 (hone rfl)
    · have c1 := first_any K.S hK.s64 K.a K.C K.D K.g K.k tp htp
      rw [h0] at c1
      have hL : K.lk s < m.X.length := by rw [hX]; exact hK.lk_lt hs
      have h := step_1 hp (loadLink_at hm hp h1 h2 hL ht rfl c1 (link_any hK s hs) (named_any K.S hK.s64 K.a K.C K.D K.g K.k (m.X.getD (K.lk s) 0) (hm.word_lt _)))
      have e : popStep K m ⟨sl, em, 1, tp, nx⟩ = (touched m 1 (K.lk s) (m.X.getD (K.lk s) 0), ⟨sl, em, 2, tp, nmd K.S (m.X.getD (K.lk s) 0)⟩) := by
        simp [popStep, h0]
      rw [e]
      exact h
  | 2, _ =>
    have c1 := Tg.moved_any tp nx htp
    by_cases hT : m.X.getD 3 0 = tp
    · have h := step_2 hp (swapTop_yes hm hp h1 h2 (by omega) ht hT (movedW_lt tp nx) c1 (first_any K.S hK.s64 K.a K.C K.D K.g K.k tp htp))
      have e : popStep K m ⟨sl, em, 2, tp, nx⟩ = (touched m 3 3 (movedW tp nx), ⟨fst K.S tp, em, 3, tp, nx⟩) := by
        unfold popStep
        rw [if_neg (by simp), if_neg (by simp), if_pos rfl, if_pos hT]
      rw [e]
      exact h
    · have h := step_2 hp (swapTop_no hm hp h1 h2 (by omega) ht rfl hT c1)
      have e : popStep K m ⟨sl, em, 2, tp, nx⟩ = (touched m 3 3 (m.X.getD 3 0), ⟨sl, em, 0, tp, nx⟩) := by
        unfold popStep
        rw [if_neg (by simp), if_neg (by simp), if_pos rfl, if_neg hT]
      rw [e]
      exact h
  | 3, _ =>
    refine (step_3 hp).mono fun e w' ⟨he, hw⟩ => ?_
    subst hw
    exact ⟨he, hm, hp, Chg.refl _ _⟩

theorem pushStep_any {K : Cf} (hK : K.Ok) {M G P : Nat} {m : MS} {w : World} {q : QS} (hm : IsMem w M G m) (hp : IsPushS w P K q) (h1 : P ≠ M) (h2 : P ≠ G) (hX : m.X.length = K.N) (ht : 0 ≤ m.t ∧ m.t < 4611686018427387904) (hw : QWf K q) :
    Calls Try.prog 24 #[.pointer (some ⟨P, 0, none⟩), .pointer (some ⟨M, 0, none⟩)] w fun e w' =>
      e = .returned (.bool (decide ((pushStep K m q).2.pc = 3))) ∧ IsMem w' M G (pushStep K m q).1 ∧ IsPushS w' P K (pushStep K m q).2 ∧ Chg [P, M, G] w w' := by
  have hN := hK.N_b
  obtain ⟨sl, pc, tp⟩ := q
  obtain ⟨hpc, htp, hsl⟩ := hw
  simp only at hpc htp hsl
  match pc, hpc with
  | 0, _ => exact pstep_0 hm hp h1 h2 (by omega) ht rfl
  | 1, _ =>
    have hL : K.lk sl < m.X.length := by rw [hX]; exact hK.lk_lt hsl
    have c2 := first_any K.S hK.s64 K.a K.C K.D K.g K.k tp htp
    have hF : (fst K.S tp + 1).toNat ≤ 64 := by have := hK.s64; rcases fst_cases K.S tp with h0 | ⟨s, hs, h0, _⟩ <;> rw [h0] <;> omega
    have eF : fst K.S tp = (((fst K.S tp + 1).toNat : Nat) : Int) - 1 := by rcases fst_cases K.S tp with h0 | ⟨s, hs, h0, _⟩ <;> rw [h0] <;> omega
    rw [eF] at c2
    exact pstep_1 hm hp h1 h2 hL ht hF (link_any hK sl hsl) c2
  | 2, _ =>
    have c1 := Tg.moved_any tp (sl : Nat) htp
    by_cases hT : m.X.getD 3 0 = tp
    · have h := pstep_2 hp (pswap_yes hm hp h1 h2 (by omega) ht hT (movedW_lt tp (sl : Nat)) c1)
      have e : pushStep K m ⟨sl, 2, tp⟩ = (touched m 3 3 (movedW tp (sl : Nat)), ⟨sl, 3, tp⟩) := by
        unfold pushStep
        rw [if_neg (by simp), if_neg (by simp), if_pos rfl, if_pos hT]
      rw [e]
      exact h
    · have h := pstep_2 hp (pswap_no hm hp h1 h2 (by omega) ht rfl hT c1)
      have e : pushStep K m ⟨sl, 2, tp⟩ = (touched m 3 3 (m.X.getD 3 0), ⟨sl, 0, tp⟩) := by
        unfold pushStep
        rw [if_neg (by simp), if_neg (by simp), if_pos rfl, if_neg hT]
      rw [e]
      exact h
  | 3, _ =>
    refine (pstep_3 hp).mono fun e w' ⟨he, hw⟩ => ?_
    subst hw
    exact ⟨he, hm, hp, Chg.refl _ _⟩
end Go.Proofs.Ytcfallaekedmkaa
