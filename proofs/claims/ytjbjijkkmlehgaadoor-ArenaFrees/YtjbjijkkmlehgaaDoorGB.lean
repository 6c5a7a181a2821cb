/- What keeps the free list whole, whoever makes and frees: no program in sight. -/
import Derived.Test.YtjbjijkkmlehgaaDoorGA
import Derived.Test.YtjbjijkkmlehgaaDoorALone
namespace Go.Proofs.YtjbjijkkmlehgaaDoor
open Mm (MS touched)
open Tg (movedW)
set_option linter.unusedVariables false

theorem slot_inj {b s t i j : Nat} (hi : i < b) (hj : j < b) (h : s * b + i = t * b + j) : s = t ∧ i = j := by
  have h1 : (s * b + i) % b = i := by rw [Nat.add_comm, Nat.add_mul_mod_self_right, Nat.mod_eq_of_lt hi]
  have h2 : (t * b + j) % b = j := by rw [Nat.add_comm, Nat.add_mul_mod_self_right, Nat.mod_eq_of_lt hj]
  have h3 : i = j := by rw [← h1, ← h2, h]
  subst h3
  have h4 : s * b = t * b := by omega
  exact ⟨Nat.eq_of_mul_eq_mul_right (by omega) h4, rfl⟩
theorem Cf.hd_lk (K : Cf) (s t : Nat) : K.hd s ≠ K.lk t := fun h => by
  unfold Cf.hd Cf.lk at h
  have := slot_inj (b := 2 + K.B) (s := s) (t := t) (i := 0) (j := 1) (by omega) (by omega) (by omega)
  omega
theorem Cf.bd_lk (K : Cf) {s t i : Nat} (hi : i < K.B) : K.bd s i ≠ K.lk t := fun h => by
  unfold Cf.bd Cf.hd Cf.lk at h
  have := slot_inj (b := 2 + K.B) (s := s) (t := t) (i := 2 + i) (j := 1) (by omega) (by omega) (by omega)
  omega
theorem Cf.bd_hd (K : Cf) {s t i : Nat} (hi : i < K.B) : K.bd s i ≠ K.hd t := fun h => by
  unfold Cf.bd Cf.hd at h
  have := slot_inj (b := 2 + K.B) (s := s) (t := t) (i := 2 + i) (j := 0) (by omega) (by omega) (by omega)
  omega
theorem Cf.bd_inj (K : Cf) {s t i j : Nat} (hi : i < K.B) (hj : j < K.B) (h : K.bd s i = K.bd t j) : s = t ∧ i = j := by
  unfold Cf.bd Cf.hd at h
  have := slot_inj (b := 2 + K.B) (s := s) (t := t) (i := 2 + i) (j := 2 + j) (by omega) (by omega) (by omega)
  omega

theorem Top.same {K : Cf} {X Y : List Nat} {tag : Nat} {F : List Nat} (h : Top K X tag F) (hl : Y.length = X.length) (h3 : Y.getD 3 0 = X.getD 3 0) (hk : ∀ s, Y.getD (K.lk s) 0 = X.getD (K.lk s) 0) : Top K Y tag F := by
  refine ⟨hl.trans h.len, ?_, by rw [h3]; exact h.tg, h.nd⟩
  rw [h3]
  exact h.ch.kept fun s _ => hk s
/-- A store at a place that is neither the top nor a link. -/
theorem Top.other {K : Cf} {X : List Nat} {tag i : Nat} {F : List Nat} (h : Top K X tag F) (h3 : i ≠ 3) (hk : ∀ s, i ≠ K.lk s) (v : Nat) : Top K (X.set i v) tag F :=
  h.same (by simp) (by rw [getD_set, if_neg (fun e => h3 e.1)]) (fun s => by rw [getD_set, if_neg (fun e => hk s e.1)])

/-- What a Pop that is under way knows. -/
structure PInv (K : Cf) (X : List Nat) (tag : Nat) (p : PS) : Prop where
  pc : p.pc ≤ 2
  old : 1 ≤ p.pc → p.tp / 65536 ≤ tag ∧ (p.tp / 65536 = tag → X.getD 3 0 = p.tp)
  nx : p.pc = 2 → p.tp / 65536 = tag → p.nx = nmd K.S (X.getD (K.lk (fst K.S p.tp).toNat) 0)
  some : 1 ≤ p.pc → fst K.S p.tp ≠ -1
/-- What a Push that is under way knows. -/
structure QInv (K : Cf) (X : List Nat) (tag : Nat) (q : QS) : Prop where
  pc : q.pc ≤ 2
  old : 1 ≤ q.pc → q.tp / 65536 ≤ tag ∧ (q.tp / 65536 = tag → X.getD 3 0 = q.tp)
  lk : q.pc = 2 → X.getD (K.lk q.sl) 0 = (fst K.S q.tp + 1).toNat

theorem popX_0n {K : Cf} {X : List Nat} {p : PS} {tag : Nat} (h : Top K X tag []) (hp : p.pc = 0) : popX K X p = (X, ⟨p.sl, true, 3, X.getD 3 0, p.nx⟩) := by
  have e := h.fst_nil
  unfold popX
  rw [if_pos hp, if_pos e, if_pos e]
theorem popX_0 {K : Cf} {X : List Nat} {p : PS} {tag s : Nat} {F : List Nat} (h : Top K X tag (s :: F)) (hp : p.pc = 0) : popX K X p = (X, ⟨p.sl, p.em, 1, X.getD 3 0, p.nx⟩) := by
  have e := h.fst
  unfold popX
  rw [if_pos hp, if_neg (by omega), if_neg (by omega)]
theorem popX_1 {K : Cf} {X : List Nat} {p : PS} {s : Nat} (hp : p.pc = 1) (hf : fst K.S p.tp = (s : Int)) : popX K X p = (X, ⟨p.sl, p.em, 2, p.tp, nmd K.S (X.getD (K.lk s) 0)⟩) := by
  unfold popX
  rw [if_neg (by omega), if_pos hp, hf]
  rfl
theorem popX_2 {K : Cf} {X : List Nat} {p : PS} (hp : p.pc = 2) (h : X.getD 3 0 = p.tp) : popX K X p = (X.set 3 (movedW p.tp p.nx), ⟨fst K.S p.tp, p.em, 3, p.tp, p.nx⟩) := by
  unfold popX
  rw [if_neg (by omega), if_neg (by omega), if_pos hp, if_pos h]
theorem popX_2n {K : Cf} {X : List Nat} {p : PS} (hp : p.pc = 2) (h : X.getD 3 0 ≠ p.tp) : popX K X p = (X, ⟨p.sl, p.em, 0, p.tp, p.nx⟩) := by
  unfold popX
  rw [if_neg (by omega), if_neg (by omega), if_pos hp, if_neg h]
theorem pushX_0 {K : Cf} {X : List Nat} {q : QS} (hq : q.pc = 0) : pushX K X q = (X, ⟨q.sl, 1, X.getD 3 0⟩) := by
  unfold pushX
  rw [if_pos hq]
theorem pushX_1 {K : Cf} {X : List Nat} {q : QS} (hq : q.pc = 1) : pushX K X q = (X.set (K.lk q.sl) (fst K.S q.tp + 1).toNat, ⟨q.sl, 2, q.tp⟩) := by
  unfold pushX
  rw [if_neg (by omega), if_pos hq]
theorem pushX_2 {K : Cf} {X : List Nat} {q : QS} (hq : q.pc = 2) (h : X.getD 3 0 = q.tp) : pushX K X q = (X.set 3 (movedW q.tp q.sl), ⟨q.sl, 3, q.tp⟩) := by
  unfold pushX
  rw [if_neg (by omega), if_neg (by omega), if_pos hq, if_pos h]
theorem pushX_2n {K : Cf} {X : List Nat} {q : QS} (hq : q.pc = 2) (h : X.getD 3 0 ≠ q.tp) : pushX K X q = (X, ⟨q.sl, 0, q.tp⟩) := by
  unfold pushX
  rw [if_neg (by omega), if_neg (by omega), if_pos hq, if_neg h]

theorem popCases {K : Cf} (hK : K.Ok) {X : List Nat} {p : PS} {tag : Nat} {F : List Nat} (tp : Top K X tag F) (hi : PInv K X tag p) (ht : tag + 1 < 281474976710656) :
    ((popX K X p).2.pc ≤ 2 ∧ (popX K X p).1 = X ∧ (popX K X p).2.sl = p.sl ∧ (popX K X p).2.em = p.em ∧ PInv K X tag (popX K X p).2) ∨
    (F = [] ∧ (popX K X p).2.pc = 3 ∧ (popX K X p).1 = X ∧ (popX K X p).2.em = true ∧ (popX K X p).2.sl = p.sl) ∨
    (∃ s F', F = s :: F' ∧ (popX K X p).2.pc = 3 ∧ (popX K X p).2.sl = (s : Int) ∧ (popX K X p).2.em = p.em ∧ (∃ v, (popX K X p).1 = X.set 3 v) ∧ Top K (popX K X p).1 (tag + 1) F') := by
  have hpc := hi.pc
  rcases (show p.pc = 0 ∨ p.pc = 1 ∨ p.pc = 2 by omega) with h0 | h1 | h2
  · cases F with
    | nil =>
      right; left
      rw [popX_0n tp h0]
      exact ⟨rfl, rfl, rfl, rfl, rfl⟩
    | cons s F =>
      left
      rw [popX_0 tp h0]
      refine ⟨by show 1 ≤ 2; omega, rfl, rfl, rfl, ⟨by show 1 ≤ 2; omega, fun _ => ⟨Nat.le_of_eq tp.tg, fun _ => rfl⟩, (fun h => by cases h), fun _ => ?_⟩⟩
      show fst K.S (X.getD 3 0) ≠ -1
      rw [tp.fst]; omega
  · left
    rcases fst_cases K.S p.tp with e | ⟨s, hs, e, _⟩
    · exact absurd e (hi.some (by omega))
    · rw [popX_1 h1 e]
      refine ⟨by show 2 ≤ 2; omega, rfl, rfl, rfl, ⟨by show 2 ≤ 2; omega, fun _ => hi.old (by omega), fun _ _ => ?_, fun _ => hi.some (by omega)⟩⟩
      show nmd K.S (X.getD (K.lk s) 0) = nmd K.S (X.getD (K.lk (fst K.S p.tp).toNat) 0)
      rw [e]; rfl
  · have ho := hi.old (by omega)
    by_cases hT : X.getD 3 0 = p.tp
    · have htag : p.tp / 65536 = tag := by rw [← hT]; exact tp.tg
      have hn := hi.nx h2 htag
      cases F with
      | nil => exact absurd (hT ▸ tp.fst_nil) (hi.some (by omega))
      | cons s F =>
        right; right
        have hf : fst K.S p.tp = (s : Int) := hT ▸ tp.fst
        rw [popX_2 h2 hT]
        refine ⟨s, F, rfl, rfl, hf, rfl, ⟨_, rfl⟩, ?_⟩
        show Top K (X.set 3 (movedW p.tp p.nx)) (tag + 1) F
        rw [hn, hf, ← hT]
        exact tp.popped hK ht
    · left
      rw [popX_2n h2 hT]
      exact ⟨by show 0 ≤ 2; omega, rfl, rfl, rfl, ⟨by show 0 ≤ 2; omega, (fun h => by have : 1 ≤ 0 := h; omega), (fun h => by cases h), fun h => by have : 1 ≤ 0 := h; omega⟩⟩

theorem pushCases {K : Cf} (hK : K.Ok) {X : List Nat} {q : QS} {tag : Nat} {F : List Nat} (tp : Top K X tag F) (hi : QInv K X tag q) (hs : q.sl ∉ F) (hsS : q.sl < K.S) (ht : tag + 1 < 281474976710656) :
    ((pushX K X q).2.pc ≤ 2 ∧ (pushX K X q).2.sl = q.sl ∧ QInv K (pushX K X q).1 tag (pushX K X q).2 ∧ Top K (pushX K X q).1 tag F ∧ ((pushX K X q).1 = X ∨ ∃ v, (pushX K X q).1 = X.set (K.lk q.sl) v)) ∨
    ((pushX K X q).2.pc = 3 ∧ (∃ v, (pushX K X q).1 = X.set 3 v) ∧ Top K (pushX K X q).1 (tag + 1) (q.sl :: F)) := by
  have hpc := hi.pc
  have hN := hK.N_b
  rcases (show q.pc = 0 ∨ q.pc = 1 ∨ q.pc = 2 by omega) with h0 | h1 | h2
  · left
    rw [pushX_0 h0]
    exact ⟨by show 1 ≤ 2; omega, rfl, ⟨by show 1 ≤ 2; omega, fun _ => ⟨Nat.le_of_eq tp.tg, fun _ => rfl⟩, fun h => by cases h⟩, tp, .inl rfl⟩
  · left
    rw [pushX_1 h1]
    have ho := hi.old (by omega)
    have e3 : (X.set (K.lk q.sl) (fst K.S q.tp + 1).toNat).getD 3 0 = X.getD 3 0 := by rw [getD_set, if_neg (by have := K.lk_4 q.sl; omega)]
    refine ⟨by show 2 ≤ 2; omega, rfl, ⟨by show 2 ≤ 2; omega, fun _ => ⟨ho.1, fun h => ?_⟩, fun _ => ?_⟩, tp.linked hs _, .inr ⟨_, rfl⟩⟩
    · show (X.set (K.lk q.sl) (fst K.S q.tp + 1).toNat).getD 3 0 = q.tp
      rw [e3]; exact ho.2 h
    · show (X.set (K.lk q.sl) (fst K.S q.tp + 1).toNat).getD (K.lk q.sl) 0 = _
      rw [getD_set, if_pos ⟨rfl, by rw [tp.len]; exact hK.lk_lt hsS⟩]
  · by_cases hT : X.getD 3 0 = q.tp
    · right
      rw [pushX_2 h2 hT]
      refine ⟨rfl, ⟨_, rfl⟩, ?_⟩
      show Top K (X.set 3 (movedW q.tp q.sl)) (tag + 1) (q.sl :: F)
      rw [← hT]
      exact tp.pushed hK hs hsS ht (by rw [hT]; exact hi.lk h2)
    · left
      rw [pushX_2n h2 hT]
      exact ⟨by show 0 ≤ 2; omega, rfl, ⟨by show 0 ≤ 2; omega, (fun h => by have : 1 ≤ 0 := h; omega), fun h => by cases h⟩, tp, .inl rfl⟩

/-- What others' steps do to the words, and what a machine knows behind them. -/
def Eff (K : Cf) (H : List Nat) (X : List Nat) (tag : Nat) (X' : List Nat) (tag' : Nat) : Prop :=
  (X' = X ∧ tag' = tag) ∨ (∃ v s, s ∈ H ∧ X' = X.set (K.lk s) v ∧ tag' = tag) ∨ (∃ v i, i ≠ 3 ∧ (∀ s, i ≠ K.lk s) ∧ X' = X.set i v ∧ tag' = tag) ∨ (∃ v, X' = X.set 3 v ∧ tag' = tag + 1)

theorem PInv.other {K : Cf} {H X X' F : List Nat} {tag tag' : Nat} {p : PS} (tp : Top K X tag F) (hi : PInv K X tag p) (he : Eff K H X tag X' tag') (hH : ∀ s ∈ H, s ∉ F) : PInv K X' tag' p := by
  rcases he with ⟨rfl, rfl⟩ | ⟨v, s, hs, rfl, rfl⟩ | ⟨v, i, h3, hk, rfl, rfl⟩ | ⟨v, rfl, rfl⟩
  · exact hi
  · have e3 : (X.set (K.lk s) v).getD 3 0 = X.getD 3 0 := by rw [getD_set, if_neg (by have := K.lk_4 s; omega)]
    refine ⟨hi.pc, fun h => ?_, fun h ht => ?_, hi.some⟩
    · rw [e3]; exact hi.old h
    · rw [hi.nx h ht, getD_set, if_neg]
      rintro ⟨e, _⟩
      have hT := (hi.old (by omega)).2 ht
      have hsm := hi.some (by omega)
      cases F with
      | nil => exact hsm (hT ▸ tp.fst_nil)
      | cons x F =>
        have hf : fst K.S p.tp = (x : Int) := hT ▸ tp.fst
        rw [hf] at e
        have hx := K.lk_inj e
        exact hH s hs (by rw [hx]; simp)
  · have e3 : (X.set i v).getD 3 0 = X.getD 3 0 := by rw [getD_set, if_neg (fun e => h3 e.1)]
    refine ⟨hi.pc, fun h => ?_, fun h ht => ?_, hi.some⟩
    · rw [e3]; exact hi.old h
    · rw [hi.nx h ht, getD_set, if_neg (fun e => hk _ e.1)]
  · refine ⟨hi.pc, fun h => ?_, fun h ht => ?_, hi.some⟩
    · have := hi.old h
      exact ⟨by omega, fun e => by omega⟩
    · have := hi.old (by omega)
      omega
theorem QInv.other {K : Cf} {H X X' : List Nat} {tag tag' : Nat} {q : QS} (hi : QInv K X tag q) (he : Eff K H X tag X' tag') (hH : q.sl ∉ H) : QInv K X' tag' q := by
  rcases he with ⟨rfl, rfl⟩ | ⟨v, s, hs, rfl, rfl⟩ | ⟨v, i, h3, hk, rfl, rfl⟩ | ⟨v, rfl, rfl⟩
  · exact hi
  · have e3 : (X.set (K.lk s) v).getD 3 0 = X.getD 3 0 := by rw [getD_set, if_neg (by have := K.lk_4 s; omega)]
    refine ⟨hi.pc, fun h => ?_, fun h => ?_⟩
    · rw [e3]; exact hi.old h
    · rw [getD_set, if_neg, hi.lk h]
      rintro ⟨e, _⟩
      exact hH (K.lk_inj e ▸ hs)
  · have e3 : (X.set i v).getD 3 0 = X.getD 3 0 := by rw [getD_set, if_neg (fun e => h3 e.1)]
    refine ⟨hi.pc, fun h => ?_, fun h => ?_⟩
    · rw [e3]; exact hi.old h
    · rw [getD_set, if_neg (fun e => hk _ e.1), hi.lk h]
  · refine ⟨hi.pc, fun h => ?_, fun h => ?_⟩
    · have := hi.old h
      exact ⟨by omega, fun e => by omega⟩
    · rw [getD_set, if_neg (by have := K.lk_4 q.sl; omega)]
      exact hi.lk h
theorem pop0_inv (K : Cf) (X : List Nat) (tag : Nat) : PInv K X tag ⟨-1, false, 0, 0, 0⟩ := ⟨by show 0 ≤ 2; omega, (fun h => by have : 1 ≤ 0 := h; omega), (fun h => by cases h), fun h => by have : 1 ≤ 0 := h; omega⟩
theorem push0_inv (K : Cf) (X : List Nat) (tag s : Nat) : QInv K X tag ⟨s, 0, 0⟩ := ⟨by show 0 ≤ 2; omega, (fun h => by have : 1 ≤ 0 := h; omega), fun h => by cases h⟩
theorem mkX_0 {K : Cf} {X : List Nat} {m : Mk} (h : m.pc = 0) : mkX K X m = ((popX K X m.p).1, if (popX K X m.p).2.pc = 3 then
        (if (popX K X m.p).2.em = true then { m with p := (popX K X m.p).2, full := true, pc := 4 } else { m with p := (popX K X m.p).2, pc := 1 })
      else { m with p := (popX K X m.p).2 }) := by unfold mkX; rw [if_pos h]
theorem mkX_1 {K : Cf} {X : List Nat} {m : Mk} (h : m.pc = 1) : mkX K X m = (X, { m with gen := genW (X.getD (K.hd m.slot) 0), pc := 2 }) := by unfold mkX; rw [if_neg (by omega), if_pos h]
theorem mkX_2 {K : Cf} {X : List Nat} {m : Mk} (h : m.pc = 2) : mkX K X m = (X.set (K.bd m.slot m.nx) (m.body.getD m.nx 0), { m with nx := m.nx + 1, pc := if m.nx + 1 = m.body.length then 3 else 2 }) := by unfold mkX; rw [if_neg (by omega), if_neg (by omega), if_pos h]
theorem mkX_3 {K : Cf} {X : List Nat} {m : Mk} (h : m.pc = 3) : mkX K X m = (X.set (K.hd m.slot) (madeW m.kind m.ar m.gen m.e), { m with sl := m.p.sl, pc := 4 }) := by unfold mkX; rw [if_neg (by omega), if_neg (by omega), if_neg (by omega), if_pos h]

/-- A Make alone, behind so many steps: the slot that it takes, the list that is left. -/
def AlAt (K : Cf) (tag s : Nat) (F : List Nat) (n : Nat) (X : List Nat) (m : Mk) : Prop :=
  (n ≤ 2 ∧ m.pc = 0 ∧ m.p.pc = n ∧ Top K X tag (s :: F) ∧ (1 ≤ n → X.getD 3 0 = m.p.tp) ∧ PInv K X tag m.p ∧ m.nx = 0) ∨
  (n = 3 ∧ m.pc = 1 ∧ m.p.sl = (s : Int) ∧ m.nx = 0 ∧ Top K X (tag + 1) F) ∨
  (4 ≤ n ∧ n < 4 + K.B ∧ m.pc = 2 ∧ m.nx = n - 4 ∧ m.p.sl = (s : Int) ∧ Top K X (tag + 1) F) ∨
  (n = 4 + K.B ∧ m.pc = 3 ∧ m.p.sl = (s : Int) ∧ Top K X (tag + 1) F) ∨
  (n = 5 + K.B ∧ m.pc = 4 ∧ m.sl = (s : Int) ∧ m.full = false ∧ Top K X (tag + 1) F)
theorem AlAt.step {K : Cf} (hK : K.Ok) {tag s n : Nat} {F X : List Nat} {m : Mk} (h : AlAt K tag s F n X m) (hf : m.Fit K) (hn : n < 5 + K.B) (ht : tag + 1 < 281474976710656) : AlAt K tag s F (n + 1) (mkX K X m).1 (mkX K X m).2 ∧ m.pc ≤ 3 ∧ ((mkX K X m).2.pc = 4 ↔ n = 4 + K.B) := by
  have hb3 := hK.b3
  rcases h with ⟨h1, h2, h3, h4, h5, h6, h7⟩ | ⟨h1, h2, h3, h4, h5⟩ | ⟨h1, h2, h3, h4, h5, h6⟩ | ⟨h1, h2, h3, h4⟩ | ⟨h1, _⟩
  · rw [mkX_0 h2]
    rcases popCases hK h4 h6 ht with ⟨a1, a2, a3, a4, a5⟩ | ⟨a1, _⟩ | ⟨s', F', a1, a2, a3, a4, ⟨v, a5⟩, a6⟩
    · simp only [if_neg (show ¬ (popX K X m.p).2.pc = 3 by omega)]
      rcases (show n = 0 ∨ n = 1 ∨ n = 2 by omega) with e | e | e
      · have ep := popX_0 (p := m.p) h4 (by omega)
        rw [ep] at a1 a2 a5 ⊢
        refine ⟨.inl ⟨by omega, h2, by show 1 = n + 1; omega, h4, fun _ => rfl, a5, h7⟩, by omega, ⟨fun h => ?_, fun h => by omega⟩⟩
        have : m.pc = 4 := h
        omega
      · have hT := h5 (by omega)
        have hfs : fst K.S m.p.tp = (s : Int) := hT ▸ h4.fst
        have ep := popX_1 (X := X) (p := m.p) (by omega) hfs
        rw [ep] at a1 a2 a5 ⊢
        refine ⟨.inl ⟨by omega, h2, by show 2 = n + 1; omega, h4, fun _ => hT, a5, h7⟩, by omega, ⟨fun h => ?_, fun h => by omega⟩⟩
        have : m.pc = 4 := h
        omega
      · have hT := h5 (by omega)
        have ep := popX_2 (p := m.p) (X := X) (K := K) (by omega) hT
        rw [ep] at a1
        have : 3 ≤ 2 := a1
        omega
    · cases a1
    · simp only [List.cons.injEq] at a1
      obtain ⟨rfl, rfl⟩ := a1
      have he := hf.em h2
      have a4' : ¬ (popX K X m.p).2.em = true := by rw [a4, he]; simp
      simp only [if_pos a2, if_neg a4']
      have e2 : n = 2 := by
        rcases (show n = 0 ∨ n = 1 ∨ n = 2 by omega) with e | e | e
        · have ep := popX_0 (p := m.p) h4 (by omega)
          rw [ep] at a2
          cases a2
        · have hT := h5 (by omega)
          have hfs : fst K.S m.p.tp = (s : Int) := hT ▸ h4.fst
          have ep := popX_1 (X := X) (p := m.p) (by omega) hfs
          rw [ep] at a2
          cases a2
        · exact e
      exact ⟨.inr (.inl ⟨by omega, rfl, a3, h7, a6⟩), by omega, ⟨(fun h => by cases h), fun h => by omega⟩⟩
  · rw [mkX_1 h2]
    exact ⟨.inr (.inr (.inl ⟨by omega, by omega, rfl, by show m.nx = _; omega, h3, h5⟩)), by omega, ⟨(fun h => by cases h), fun h => by omega⟩⟩
  · have hl := hf.ok.len
    have hnx := hf.ok.nx (by omega)
    rw [mkX_2 h3]
    have tp := h6.other (i := K.bd m.slot m.nx) (by have := K.bd_4 m.slot m.nx; omega) (fun t => K.bd_lk hnx) (m.body.getD m.nx 0)
    by_cases hd : m.nx + 1 = m.body.length
    · rw [if_pos hd]
      exact ⟨.inr (.inr (.inr (.inl ⟨by omega, rfl, h5, tp⟩))), by omega, ⟨(fun h => by cases h), fun h => by omega⟩⟩
    · rw [if_neg hd]
      exact ⟨.inr (.inr (.inl ⟨by omega, by omega, rfl, by show m.nx + 1 = _; omega, h5, tp⟩)), by omega, ⟨(fun h => by cases h), fun h => by omega⟩⟩
  · rw [mkX_3 h2]
    have tp := h4.other (i := K.hd m.slot) (by have := K.hd_4 m.slot; omega) (fun t => K.hd_lk _ _) (madeW m.kind m.ar m.gen m.e)
    exact ⟨.inr (.inr (.inr (.inr ⟨by omega, rfl, h3, (hf.sl (by omega)).2, tp⟩))), by omega, ⟨fun _ => h1, fun _ => rfl⟩⟩
  · omega
end Go.Proofs.YtjbjijkkmlehgaaDoor
/- The law of one alone that makes all slots something, walked. -/
namespace Go.Proofs.YtjbjijkkmlehgaaDoor
open Go.RowKit
open Mm (IsMem MS touched Only IsWords zeroMS)
open Hh (WT)

/-- A Make beside a law's own blocks. -/
structure AlW (w wr : World) (K : Cf) (M G P : Nat) (X : List Nat) (T : Int) (m : Mk) : Prop where
  ds : Ds w wr K M G X T
  ma : MkIn wr K P m
  fit : m.Fit K
  ap : P ≠ M ∧ P ≠ G ∧ m.bb ≠ P ∧ m.bb ≠ M ∧ m.bb ≠ G
  hi : w.heap.size + 1 ≤ P
theorem AlW.step {w wr : World} {K : Cf} (hK : K.Ok) {M G P : Nat} {X : List Nat} {T : Int} {m : Mk} (h : AlW w wr K M G P X T m) (hl : X.length = K.N) (ht : 0 ≤ T ∧ T + 1 < 4611686018427387904) (h3 : m.pc ≤ 3) :
    Calls Tryd.prog 20 #[.pointer (some ⟨P, 0, none⟩), .pointer (some ⟨M, 0, none⟩)] wr fun r w' => r = .returned (.bool (decide ((mkX K X m).2.pc = 4))) ∧ AlW w w' K M G P (mkX K X m).1 (T + 1) (mkX K X m).2 := by
  have ap := h.ap
  have hi := h.hi
  have hM := h.ds.hM
  have hG := h.ds.hG
  refine (mk_step hK h.ds.mem h.ds.wt hl ht (by omega) h.ma h.fit.ok h3 (by omega) (by omega)).mono fun r w' ⟨h1, h2, h4, h5, h6⟩ => ⟨h1, ?_⟩
  exact ⟨h.ds.chg h6 hi h2 h5, h4, mkX_fit h.fit h3 (fun i => h.ds.mem.fits i), by rw [(mkX_body K X m).1]; exact ap, hi⟩
theorem AlW.below {w wr w1 : World} {K : Cf} {M G P : Nat} {X : List Nat} {T : Int} {m : Mk} (h : AlW w wr K M G P X T m) (b : Below wr.heap.size wr w1) : AlW w w1 K M G P X T m := ⟨h.ds.below b, h.ma.below b, h.fit, h.ap, h.hi⟩
/-- A Make that is new. -/
theorem AlW.new {w wr w' : World} {K : Cf} (hK : K.Ok) {M G P R : Nat} {X : List Nat} {T : Int} {c : Array Value} {kind ar ep : Nat} {Y : List Nat} (hd : Ds w wr K M G X T) (nb : NewBlk wr w' P c 60) (ha : MkAt c K (mk0 kind ar ep R K.B Y)) (hr : IsWords w' R (fillW K.B Y)) (hR : wr.heap.size ≤ R) (hRP : R ≠ P) (hk : kind = 1 ∨ kind = 2) (hA : ar < 16) (he : ep < 18446744073709551616) (hY : ∀ i, Y.getD i 0 < 18446744073709551616) : AlW w w' K M G P X T (mk0 kind ar ep R K.B Y) := by
  have h1 := hd.mem.lt
  have h2 := nb.new
  have h3 := hd.lt
  exact ⟨hd.below nb.bel, ⟨c, nb.blk, ha, hr⟩, mk0_fit hK hk hA he hY, ⟨by omega, by omega, hRP, by show R ≠ M; omega, by show R ≠ G; omega⟩, by omega⟩

set_option maxRecDepth 100000 in
set_option maxHeartbeats 8000000 in
theorem alone_law (s a c d g k : Int) (ep : Nat) (hep : ep < 18446744073709551616) (y : Int) (hy : 0 ≤ y ∧ y ≤ 255) (w : World) (hw : WT w) :
    Calls Tryd.prog 4 #[.agg (cs s a c d g k), .int .u64 (ep : Nat), .int .u8 y] w fun e w' => e = .returned (.bool true) ∧ Below w.heap.size w w' := by
  have cf := Fit_any s a c d g k
  have bel := alloc_below w (.cells #[.int .i64 s, .int .i64 a, .int .i64 c, .int .i64 d, .int .i64 g, .int .i64 k] 23)
  have hh := cfg_new w s a c d g k
  have hW0 := hw.lt
  replace hw := hw.below bel
  go_enter Tryd.func4, Tryd.ntmps4
  go_upto_region 1 with fail
  generalize w.alloc (.cells #[.int .i64 s, .int .i64 a, .int .i64 c, .int .i64 d, .int .i64 g, .int .i64 k] 23) = w1 at *
  obtain ⟨l0, l1, l2, l3, l4, l5⟩ := hh.cells
  go_upto_region 2 with (first
    | (go_at_call 8; refine (cf _).mono ?_; rintro e w2 ⟨⟨s', a', c', d', g', k', rfl, hs, ha, hc, hd, hg, hk⟩, b⟩; replace bel := seq_below bel b; replace hh := hh.below b; replace hw := hw.below b; obtain ⟨l0, l1, l2, l3, l4, l5⟩ := hh.cells; have y0 := hh.free 0; have y1 := hh.free 1; have y2 := hh.free 2; have y3 := hh.free 3; have y4 := hh.free 4; have y5 := hh.free 5))
  have h3 := cfg_stored6 hh s' a' c' d' g' k'
  have bel3 := below_stored6 bel (Nat.le_refl w.heap.size) (.int .i64 s') (.int .i64 a') (.int .i64 c') (.int .i64 d') (.int .i64 g') (.int .i64 k')
  have hw0 : 0 < w.heap.size := hW0
  have hw3 := ((((((hw.set (o := 0) hw0 (.int .i64 s')).set (o := 1) hw0 (.int .i64 a')).set (o := 2) hw0 (.int .i64 c')).set (o := 3) hw0 (.int .i64 d')).set (o := 4) hw0 (.int .i64 g')).set (o := 5) hw0 (.int .i64 k'))
  clear l0 l1 l2 l3 l4 l5 y0 y1 y2 y3 y4 y5 hh bel cf hw
  generalize ((((((w2.setCell ⟨w.heap.size, 0, none⟩ (.int .i64 s')).setCell ⟨w.heap.size, 1, none⟩ (.int .i64 a')).setCell ⟨w.heap.size, 2, none⟩ (.int .i64 c')).setCell ⟨w.heap.size, 3, none⟩ (.int .i64 d')).setCell ⟨w.heap.size, 4, none⟩ (.int .i64 g')).setCell ⟨w.heap.size, 5, none⟩ (.int .i64 k')) = w3 at *
  have hr : rightB s' a' c' d' g' k' = true := rightB_iff.2 (by omega)
  clear hc hd hg hk
  obtain ⟨K, hK, rfl, rfl, rfl, rfl, rfl, rfl⟩ := Cf.of_right hr
  have c9 := memory_yes hK.r hK.b hK.b8 hK.c8 hK.d16 hK.s64 hK.s1 hK.d1
  rw [show zeroMS (memX K.C K.D K.B (nW K.C K.D K.B K.S) (K.S - 1)) = memK0 K from rfl] at c9
  have c18 := room_any K.S K.a K.C K.D K.g K.k
  rw [hK.b] at c18
  have hb3 := hK.b3
  have hb8 := hK.b8
  have hh := h3
  have bel := bel3
  have hw := hw3
  clear h3 bel3 hr hw3
  have hS1 := hK.s1
  obtain ⟨l0, l1, l2, l3, l4, l5⟩ := hh.cells
  obtain ⟨ar, har, har2, hare⟩ : ∃ ar : Nat, ar ≤ 4 ∧ (ar : Int) ≤ K.a ∧ y.tmod (K.a + 1) = (ar : Int) := by
    have e : y.tmod (K.a + 1) = y % (K.a + 1) := Int.tmod_eq_emod_of_nonneg hy.1
    have h1 : 0 ≤ y % (K.a + 1) := Int.emod_nonneg _ (by omega)
    have h2 : y % (K.a + 1) < K.a + 1 := Int.emod_lt_of_pos _ (by omega)
    exact ⟨(y % (K.a + 1)).toNat, by omega, by omega, by rw [e]; omega⟩
  have hmay : mayB K.a 1 ar = true := by simp [mayB, har2]
  have c19 : ∀ w, Calls Tryd.prog 19 #[.agg K.cs, .int .i64 1, .int .i64 (ar : Nat), .int .u64 (ep : Nat), .slice none 0 0] w fun e w' => ∃ P R c, e = .returned (.pointer (some ⟨P, 0, none⟩)) ∧ NewBlk w w' P c 60 ∧ MkAt c K (mk0 1 ar ep R K.B []) ∧ IsWords w' R (fillW K.B []) ∧ w.heap.size ≤ R ∧ R ≠ P := fun w => newMake_yes (w := w) (ad := none) (n := 0) (cap := 0) (Y := []) hK 1 ar ep hmay (fun i hi => by simp at hi) rfl (by omega)
  have c19r : ∀ w, Calls Tryd.prog 19 #[.agg K.cs, .int .i64 2, .int .i64 0, .int .u64 (ep : Nat), .slice none 0 0] w fun e w' => ∃ P R c, e = .returned (.pointer (some ⟨P, 0, none⟩)) ∧ NewBlk w w' P c 60 ∧ MkAt c K (mk0 2 0 ep R K.B []) ∧ IsWords w' R (fillW K.B []) ∧ w.heap.size ≤ R ∧ R ≠ P := fun w => newMake_yes (w := w) (ad := none) (n := 0) (cap := 0) (Y := []) hK 2 0 ep (by rfl) (fun i hi => by simp at hi) rfl (by omega)
  have q1 : IntKind.i64.wrap (K.a + 1) = K.a + 1 := by rw [IntKind.wrap_i64]; omega
  have q2 : ¬ K.a + 1 = 0 := by omega
  have q3 : IntKind.i64.wrap y = y := by rw [IntKind.wrap_i64]; omega
  have q5 : IntKind.i64.wrap (4 + (K.B : Int)) = 4 + (K.B : Int) := by rw [IntKind.wrap_i64]; omega
  have q6 : IntKind.i64.wrap (4 + (K.B : Int) + 1) = 5 + (K.B : Int) := by rw [IntKind.wrap_i64]; omega
  unfold Cf.cs at *
  go_upto_region 6 with (first
    | (go_at_call 9; refine (c9 _).mono ?_; rintro e w4 ⟨M, G, rfl, hm, hM, hG, hb⟩; have hlt := hh.lt; replace hh := hh.below hb; replace bel := seq_below bel hb; replace hw := hw.below hb; clear hb l0 l1 l2 l3 l4 l5; obtain ⟨l0, l1, l2, l3, l4, l5⟩ := hh.cells)
    | (go_at_call 18; refine (c18 _).mono ?_; rintro e w5 ⟨rfl, hb⟩; replace hh := hh.below hb; replace bel := seq_below bel hb; replace hw := hw.below hb; replace hm := hm.below hb; clear hb l0 l1 l2 l3 l4 l5))
  have ds : Ds w w5 K M G (memK0 K).X 0 := ⟨⟨_, hm, rfl, rfl⟩, hh, bel, hw, by omega, by omega⟩
  clear hm hh bel hw hM hG hlt c9 c18 q5 q6
  have HT : Hid (Top K (memK0 K).X 0 (List.range' 0 K.S)) := top_new hK
  have hst : ∃ st : Int, 5 + (K.B : Int) = st := ⟨_, rfl⟩
  obtain ⟨st, hst⟩ := hst
  rw [hst]
  have hS12 : K.S ≤ 12 := by omega
  have cds : ∀ wr X T, Ds w wr K M G X T → wr.cell? ⟨w.heap.size, 0, none⟩ = some (.int .i64 (K.S : Nat)) ∧ wr.cell? ⟨w.heap.size, 1, none⟩ = some (.int .i64 K.a) ∧ wr.cell? ⟨w.heap.size, 2, none⟩ = some (.int .i64 (K.C : Nat)) ∧ wr.cell? ⟨w.heap.size, 3, none⟩ = some (.int .i64 (K.D : Nat)) ∧ wr.cell? ⟨w.heap.size, 4, none⟩ = some (.int .i64 K.g) ∧ wr.cell? ⟨w.heap.size, 5, none⟩ = some (.int .i64 K.k) := fun wr X T x => x.cfg.cells
  replace cds : Hid _ := cds
  go_wp2
  go_loopw [9] (fun i wr => ∃ (n tag : Nat) (X : List Nat) (T : Int), n ≤ K.S ∧ i = .int .i64 n ∧ tag ≤ n ∧ (0 ≤ T ∧ T ≤ 13 * n) ∧ Hid (Top K X tag (List.range' n (K.S - n))) ∧ Ds w wr K M G X T) (fun i _ => K.S - (intOf i).toNat)
  case atStart => exact ⟨0, 0, _, 0, Nat.zero_le _, rfl, Nat.le_refl _, by omega, by rw [Nat.sub_zero]; exact HT, ds⟩
  case round =>
    clear ds HT
    obtain ⟨n, tag, X, T, hn, rfl, htag, hT, HT, ds⟩ := hrel
    obtain ⟨l0, l1, l2, l3, l4, l5⟩ := cds.out _ _ _ ds
    by_cases hnS : n < K.S
    · have hnS' : (n : Int) < (K.S : Int) := by omega
      obtain ⟨F, hF⟩ : ∃ F, List.range' n (K.S - n) = n :: F ∧ F = List.range' (n + 1) (K.S - (n + 1)) := by
        refine ⟨_, ?_, rfl⟩
        rw [show K.S - n = (K.S - (n + 1)) + 1 by omega, List.range'_succ]
      go_upto_region 9 with fail
      clear l0 l1 l2 l3 l4 l5
      replace ds := ds.drew
      go_region_held (fun wr => wr.cell? ⟨w.heap.size, 0, none⟩ = some (.int .i64 (K.S : Nat)) ∧ wr.cell? ⟨w.heap.size, 1, none⟩ = some (.int .i64 K.a) ∧ wr.cell? ⟨w.heap.size, 2, none⟩ = some (.int .i64 (K.C : Nat)) ∧ wr.cell? ⟨w.heap.size, 3, none⟩ = some (.int .i64 (K.D : Nat)) ∧ wr.cell? ⟨w.heap.size, 4, none⟩ = some (.int .i64 K.g) ∧ wr.cell? ⟨w.heap.size, 5, none⟩ = some (.int .i64 K.k)) (with_reducible exact cds.out _ _ _ ds) (first
        | (go_at_call 19; with_reducible refine (c19 _).mono ?_; rintro e w6 ⟨P, R, cP, rfl, nP, aP, rP, hR, hRP⟩; have al := AlW.new hK ds nP aP rP hR hRP (.inl rfl) (by omega) hep (fun i => by simp); clear ds; have ds := al.ds))
      have HA : Hid (AlAt K tag n F 0 X (mk0 1 ar ep R K.B [])) := .inl ⟨by omega, rfl, rfl, hF.1 ▸ HT.out, (fun h => by omega), pop0_inv K X tag, rfl⟩
      clear ds nP aP rP hR hRP HT
      generalize mk0 1 ar ep R K.B [] = m0 at *
      replace hF : Hid _ := hF.2
      go_wp2
      go_loopw [11] (fun i wr => ∃ (j : Nat) (X : List Nat) (T' : Int) (m : Mk), j ≤ 4 + K.B ∧ i = .int .i64 (j + 1 : Nat) ∧ (0 ≤ T' ∧ T' ≤ T + j) ∧ Hid (AlAt K tag n F j X m) ∧ AlW w wr K M G P X T' m) (fun i _ => 20 - (intOf i).toNat)
      case atStart => exact ⟨0, X, T, m0, by omega, rfl, by omega, HA, al⟩
      case round =>
        clear al HA
        obtain ⟨j, X1, T1, m, hj, rfl, hT1, HA, al⟩ := hrel
        have hst1 := HA.out.step hK al.fit (by omega) (by omega)
        have hlen : X1.length = K.N := by
          rcases HA.out with h | h | h | h | h
          · exact h.2.2.2.1.len
          · exact h.2.2.2.2.len
          · exact h.2.2.2.2.2.len
          · exact h.2.2.2.len
          · exact h.2.2.2.2.len
        have c20 := al.step hK hlen (by omega) hst1.2.1
        have hj40 : ((j + 1 : Nat) : Int) < 40 := by omega
        have ed : decide ((mkX K X1 m).2.pc = 4) = decide (j = 4 + K.B) := decide_eq_decide.2 hst1.2.2
        rw [ed] at c20
        have HA2 : Hid _ := hst1.1
        clear hst1 hlen HA al ed
        push_cast at hj40
        push_cast
        by_cases hje : j = 4 + K.B
        · rw [decide_eq_true hje] at c20
          have hje2 : Hid ((j : Int) + 1 = st) := by unfold Hid; omega
          replace hje : Hid (j = 4 + K.B) := hje
          clear hst
          go_upto_region 13 with (go_at_call 20; refine c20.mono ?_; rintro e w7 ⟨rfl, al⟩)
          clear c20
          rcases HA2.out with h | h | h | h | ⟨h1, h2, h3, h4, h5⟩
          · have := hje.out; omega
          · have := hje.out; omega
          · have := hje.out; omega
          · have := hje.out; omega
          have k0 := al.ma.cells.1
          have k1 := al.ma.cells.2
          rw [h3] at k0
          rw [h4] at k1
          have HT : Hid (Top K (mkX K X1 m).1 (tag + 1) (List.range' (n + 1) (K.S - (n + 1)))) := by rw [← hF.out]; exact h5
          have ds2 := al.ds
          have hb8' : j ≤ 12 := by have := hje.out; omega
          clear HA2 h1 h2 h3 h4 h5 al hj40 hj
          generalize (mkX K X1 m).1 = X2 at *
          have hne : ((j : Int) + 1 != st) = false := by have := hje2.out; simp [this]
          go_wp2
          go_roundw
          case rel => exact ⟨n + 1, tag + 1, X2, _, by omega, by go_num, by omega, by omega, HT, ds2⟩
          case measure => simp [intOf]; omega
        · rw [decide_eq_false hje] at c20
          go_wp2_with (go_at_call 20; refine c20.mono ?_; rintro e w7 ⟨rfl, al⟩)
          go_roundw
          case rel => exact ⟨j + 1, _, _, _, by omega, by go_num, by omega, HA2, al⟩
          case measure => simp [intOf]; omega
    · have hnS' : ¬ (n : Int) < (K.S : Int) := by omega
      have hnn : n = K.S := by omega
      have tp : Top K X tag [] := by
        have := HT.out
        rw [hnn, Nat.sub_self] at this
        exact this
      have hlen := tp.len
      have e1 : ∀ R, (mkX K X (mk0 2 0 ep R K.B [])).2.pc = 4 ∧ (mkX K X (mk0 2 0 ep R K.B [])).2.full = true ∧ (mkX K X (mk0 2 0 ep R K.B [])).2.sl = -1 := fun R => by
        rw [mkX_0 rfl]
        have ep2 := popX_0n (p := (mk0 2 0 ep R K.B []).p) tp rfl
        rw [ep2]
        exact ⟨rfl, rfl, rfl⟩
      replace e1 : Hid _ := e1
      have hT2 : 0 ≤ T ∧ T + 1 < 4611686018427387904 := by omega
      clear HT tp hnS hnn hn hT
      have hsz := ds.lt
      go_wp2_with (first
        | (go_at_call 19; refine (c19r _).mono ?_; rintro e w6 ⟨P, R, cP, rfl, nP, aP, rP, hR, hRP⟩; have al := AlW.new hK ds nP aP rP hR hRP (.inr rfl) (by omega) hep (fun i => by simp); obtain ⟨x1, x2, x3⟩ := e1.out R; clear e1 ds nP aP rP hR hRP l0 l1 l2 l3 l4 l5)
        | (go_at_call 20; have c20 := al.step hK hlen hT2 (by show 0 ≤ 3; omega); rw [decide_eq_true x1] at c20; refine c20.mono ?_; rintro e w7 ⟨rfl, al2⟩; have k0 := al2.ma.cells.1; have k1 := al2.ma.cells.2; rw [x3] at k0; rw [x2] at k1; have wt2 := al2.ds.wt; have bel2 := al2.ds.bel; clear al al2 c20 x1 x2 x3)
        | (go_at_call 10; refine (awake_any _ wt2).mono ?_; rintro e w8 ⟨rfl, hb⟩; replace bel2 := seq_below bel2 hb))
      go_ret
      exact ⟨rfl, bel2⟩
end Go.Proofs.YtjbjijkkmlehgaaDoor
