/- What keeps the free list whole, whoever takes and lays: no program in sight. -/
import Derived.Test.YtcfallaekedmkaaSLone
namespace Go.Proofs.Ytcfallaekedmkaa
open Mm (MS touched)
open Tg (movedW)
set_option linter.unusedVariables false

/-- What a Pop that is under way knows. -/
structure PInv (K : Cf) (X : List Nat) (tag : Nat) (p : PS) : Prop where
  pc : p.pc ≤ 2
  old : 1 ≤ p.pc → p.tp / 65536 ≤ tag ∧ (p.tp / 65536 = tag → X.getD 3 0 = p.tp)
  nx : p.pc = 2 → p.tp / 65536 = tag → p.nx = nmd K.S (X.getD (K.lk (fst K.S p.tp).toNat) 0)
  some : 1 ≤ p.pc → fst K.S p.tp ≠ -1
/-- What a Push that is under way knows. -/
structure QInv (K : Cf) (X : List Nat) (tag : Nat) (q : QS) : Prop where
  pc : q.pc ≤ 2
  old : 1 ≤ q.pc → q.tp / 65536 ≤ tag ∧ (q.tp / 65536 = tag → X.getD 3 0 = q.tp)
  lk : q.pc = 2 → X.getD (K.lk q.sl) 0 = (fst K.S q.tp + 1).toNat

theorem popCases {K : Cf} (hK : K.Ok) {m : MS} {p : PS} {tag : Nat} {F : List Nat} (tp : Top K m.X tag F) (hi : PInv K m.X tag p) (ht : tag + 1 < 281474976710656) :
    ((popStep K m p).2.pc ≤ 2 ∧ (popStep K m p).1.X = m.X ∧ (popStep K m p).2.sl = p.sl ∧ (popStep K m p).2.em = p.em ∧ PInv K m.X tag (popStep K m p).2) ∨
    (F = [] ∧ (popStep K m p).2.pc = 3 ∧ (popStep K m p).1.X = m.X ∧ (popStep K m p).2.em = true ∧ (popStep K m p).2.sl = p.sl) ∨
    (∃ s F', F = s :: F' ∧ (popStep K m p).2.pc = 3 ∧ (popStep K m p).2.sl = (s : Int) ∧ (popStep K m p).2.em = p.em ∧ (∃ v, (popStep K m p).1.X = m.X.set 3 v) ∧ Top K (popStep K m p).1.X (tag + 1) F') := by
  have hpc := hi.pc
  rcases (show p.pc = 0 ∨ p.pc = 1 ∨ p.pc = 2 by omega) with h0 | h1 | h2
  · cases F with
    | nil =>
      right; left
      rw [pop_e tp h0]
      exact ⟨rfl, rfl, touched_X m 1 3, rfl, rfl⟩
    | cons s F =>
      left
      rw [pop_1 tp h0]
      refine ⟨by show 1 ≤ 2; omega, touched_X m 1 3, rfl, rfl, ⟨by show 1 ≤ 2; omega, fun _ => ⟨Nat.le_of_eq tp.tg, fun _ => rfl⟩, (fun h => by cases h), fun _ => ?_⟩⟩
      show fst K.S (m.X.getD 3 0) ≠ -1
      rw [tp.fst]; omega
  · left
    rcases fst_cases K.S p.tp with e | ⟨s, hs, e, _⟩
    · exact absurd e (hi.some (by omega))
    · rw [pop_2 h1 e]
      refine ⟨by show 2 ≤ 2; omega, touched_X m 1 _, rfl, rfl, ⟨by show 2 ≤ 2; omega, fun _ => hi.old (by omega), fun _ _ => ?_, fun _ => hi.some (by omega)⟩⟩
      show nmd K.S (m.X.getD (K.lk s) 0) = nmd K.S (m.X.getD (K.lk (fst K.S p.tp).toNat) 0)
      rw [e]; rfl
  · have ho := hi.old (by omega)
    by_cases hT : m.X.getD 3 0 = p.tp
    · have htag : p.tp / 65536 = tag := by rw [← hT]; exact tp.tg
      have hn := hi.nx h2 htag
      cases F with
      | nil => exact absurd (hT ▸ tp.fst_nil) (hi.some (by omega))
      | cons s F =>
        right; right
        have hf : fst K.S p.tp = (s : Int) := hT ▸ tp.fst
        rw [pop_3 h2 hT]
        refine ⟨s, F, rfl, rfl, hf, rfl, ⟨_, rfl⟩, ?_⟩
        show Top K (m.X.set 3 (movedW p.tp p.nx)) (tag + 1) F
        rw [hn, hf, ← hT]
        exact tp.popped hK ht
    · left
      rw [pop_no h2 hT]
      exact ⟨by show 0 ≤ 2; omega, touched_X m 3 3, rfl, rfl, ⟨by show 0 ≤ 2; omega, (fun h => by have : 1 ≤ 0 := h; omega), (fun h => by cases h), fun h => by have : 1 ≤ 0 := h; omega⟩⟩

theorem pushCases {K : Cf} (hK : K.Ok) {m : MS} {q : QS} {tag : Nat} {F : List Nat} (tp : Top K m.X tag F) (hi : QInv K m.X tag q) (hs : q.sl ∉ F) (hsS : q.sl < K.S) (ht : tag + 1 < 281474976710656) :
    ((pushStep K m q).2.pc ≤ 2 ∧ (pushStep K m q).2.sl = q.sl ∧ QInv K (pushStep K m q).1.X tag (pushStep K m q).2 ∧ Top K (pushStep K m q).1.X tag F ∧ ((pushStep K m q).1.X = m.X ∨ ∃ v, (pushStep K m q).1.X = m.X.set (K.lk q.sl) v)) ∨
    ((pushStep K m q).2.pc = 3 ∧ (∃ v, (pushStep K m q).1.X = m.X.set 3 v) ∧ Top K (pushStep K m q).1.X (tag + 1) (q.sl :: F)) := by
  have hpc := hi.pc
  have hN := hK.N_b
  rcases (show q.pc = 0 ∨ q.pc = 1 ∨ q.pc = 2 by omega) with h0 | h1 | h2
  · left
    rw [push_1 h0]
    have e := touched_X m 1 3
    refine ⟨by show 1 ≤ 2; omega, rfl, ⟨by show 1 ≤ 2; omega, fun _ => ⟨Nat.le_of_eq tp.tg, fun _ => ?_⟩, fun h => by cases h⟩, ?_, .inl e⟩
    · show (touched m 1 3 (m.X.getD 3 0)).X.getD 3 0 = _
      rw [e]
    · show Top K (touched m 1 3 (m.X.getD 3 0)).X tag F
      rw [e]; exact tp
  · left
    rw [push_2 h1]
    have ho := hi.old (by omega)
    have e3 : (m.X.set (K.lk q.sl) (fst K.S q.tp + 1).toNat).getD 3 0 = m.X.getD 3 0 := by rw [getD_set, if_neg (by have := K.lk_4 q.sl; omega)]
    refine ⟨by show 2 ≤ 2; omega, rfl, ⟨by show 2 ≤ 2; omega, fun _ => ⟨ho.1, fun h => ?_⟩, fun _ => ?_⟩, tp.linked hs _, .inr ⟨_, rfl⟩⟩
    · show (m.X.set (K.lk q.sl) (fst K.S q.tp + 1).toNat).getD 3 0 = q.tp
      rw [e3]; exact ho.2 h
    · show (m.X.set (K.lk q.sl) (fst K.S q.tp + 1).toNat).getD (K.lk q.sl) 0 = _
      rw [getD_set, if_pos ⟨rfl, by rw [tp.len]; exact hK.lk_lt hsS⟩]
  · by_cases hT : m.X.getD 3 0 = q.tp
    · right
      rw [push_3 h2 hT]
      refine ⟨rfl, ⟨_, rfl⟩, ?_⟩
      show Top K (m.X.set 3 (movedW q.tp q.sl)) (tag + 1) (q.sl :: F)
      rw [← hT]
      exact tp.pushed hK hs hsS ht (by rw [hT]; exact hi.lk h2)
    · left
      rw [push_no h2 hT]
      have e := touched_X m 3 3
      refine ⟨by show 0 ≤ 2; omega, rfl, ⟨by show 0 ≤ 2; omega, (fun h => by have : 1 ≤ 0 := h; omega), fun h => by cases h⟩, ?_, .inl e⟩
      show Top K (touched m 3 3 (m.X.getD 3 0)).X tag F
      rw [e]; exact tp

theorem pushStep_len (K : Cf) (m : MS) (q : QS) : (pushStep K m q).1.X.length = m.X.length := by
  unfold pushStep
  split
  · simp [Mm.touched]
  split
  · simp [Mm.touched]
  split
  · split <;> simp [Mm.touched]
  · rfl
theorem pushStep_t (K : Cf) (m : MS) (q : QS) : m.t ≤ (pushStep K m q).1.t ∧ (pushStep K m q).1.t ≤ m.t + 1 := by
  have h : m.t ≤ m.t + 1 := by omega
  unfold pushStep
  split
  · exact ⟨h, Int.le_refl _⟩
  split
  · exact ⟨h, Int.le_refl _⟩
  split
  · split <;> exact ⟨h, Int.le_refl _⟩
  · exact ⟨Int.le_refl _, h⟩

/-- What others' steps do to the words, and what a machine knows behind them. -/
def Eff (K : Cf) (H : List Nat) (X : List Nat) (tag : Nat) (F : List Nat) (X' : List Nat) (tag' : Nat) (F' : List Nat) : Prop :=
  (X' = X ∧ tag' = tag ∧ F' = F) ∨ (∃ v s, s ∈ H ∧ X' = X.set (K.lk s) v ∧ tag' = tag ∧ F' = F) ∨ (∃ v, X' = X.set 3 v ∧ tag' = tag + 1)

theorem PInv.other {K : Cf} {H X X' F F' : List Nat} {tag tag' : Nat} {p : PS} (tp : Top K X tag F) (hi : PInv K X tag p) (he : Eff K H X tag F X' tag' F') (hH : ∀ s ∈ H, s ∉ F) : PInv K X' tag' p := by
  rcases he with ⟨rfl, rfl, _⟩ | ⟨v, s, hs, rfl, rfl, _⟩ | ⟨v, rfl, rfl⟩
  · exact hi
  · have e3 : (X.set (K.lk s) v).getD 3 0 = X.getD 3 0 := by rw [getD_set, if_neg (by have := K.lk_4 s; omega)]
    refine ⟨hi.pc, fun h => ?_, fun h ht => ?_, hi.some⟩
    · rw [e3]; exact hi.old h
    · rw [hi.nx h ht, getD_set, if_neg]
      rintro ⟨e, _⟩
      have hT := (hi.old (by omega)).2 ht
      have hsm := hi.some (by omega)
      cases F with
      | nil => exact hsm (hT ▸ tp.fst_nil)
      | cons x F =>
        have hf : fst K.S p.tp = (x : Int) := hT ▸ tp.fst
        rw [hf] at e
        have hx := K.lk_inj e
        exact hH s hs (by rw [hx]; simp)
  · refine ⟨hi.pc, fun h => ?_, fun h ht => ?_, hi.some⟩
    · have := hi.old h
      exact ⟨by omega, fun e => by omega⟩
    · have := hi.old (by omega)
      omega
theorem QInv.other {K : Cf} {H X X' F F' : List Nat} {tag tag' : Nat} {q : QS} (hi : QInv K X tag q) (he : Eff K H X tag F X' tag' F') (hH : q.sl ∉ H) : QInv K X' tag' q := by
  rcases he with ⟨rfl, rfl, _⟩ | ⟨v, s, hs, rfl, rfl, _⟩ | ⟨v, rfl, rfl⟩
  · exact hi
  · have e3 : (X.set (K.lk s) v).getD 3 0 = X.getD 3 0 := by rw [getD_set, if_neg (by have := K.lk_4 s; omega)]
    refine ⟨hi.pc, fun h => ?_, fun h => ?_⟩
    · rw [e3]; exact hi.old h
    · rw [getD_set, if_neg, hi.lk h]
      rintro ⟨e, _⟩
      exact hH (K.lk_inj e ▸ hs)
  · refine ⟨hi.pc, fun h => ?_, fun h => ?_⟩
    · have := hi.old h
      exact ⟨by omega, fun e => by omega⟩
    · rw [getD_set, if_neg (by have := K.lk_4 q.sl; omega)]
      exact hi.lk h
end Go.Proofs.Ytcfallaekedmkaa
