/- What keeps the free list whole, whoever makes and frees: no program in sight. -/
import Derived.Test.YteechgmjaagbmabDoorSTop
import Derived.Test.YteechgmjaagbmabDoorAB
namespace Go.Proofs.YteechgmjaagbmabDoor
open Mm (MS touched)
open Tg (movedW)
set_option linter.unusedVariables false

theorem slot_inj {b s t i j : Nat} (hi : i < b) (hj : j < b) (h : s * b + i = t * b + j) : s = t ∧ i = j := by
  have h1 : (s * b + i) % b = i := by rw [Nat.add_comm, Nat.add_mul_mod_self_right, Nat.mod_eq_of_lt hi]
  have h2 : (t * b + j) % b = j := by rw [Nat.add_comm, Nat.add_mul_mod_self_right, Nat.mod_eq_of_lt hj]
  have h3 : i = j := by rw [← h1, ← h2, h]
  subst h3
  have h4 : s * b = t * b := by omega
  exact ⟨Nat.eq_of_mul_eq_mul_right (by omega) h4, rfl⟩
theorem Cf.hd_lk (K : Cf) (s t : Nat) : K.hd s ≠ K.lk t := fun h => by
  unfold Cf.hd Cf.lk at h
  have := slot_inj (b := 2 + K.B) (s := s) (t := t) (i := 0) (j := 1) (by omega) (by omega) (by omega)
  omega
theorem Cf.bd_lk (K : Cf) {s t i : Nat} (hi : i < K.B) : K.bd s i ≠ K.lk t := fun h => by
  unfold Cf.bd Cf.hd Cf.lk at h
  have := slot_inj (b := 2 + K.B) (s := s) (t := t) (i := 2 + i) (j := 1) (by omega) (by omega) (by omega)
  omega
theorem Cf.bd_hd (K : Cf) {s t i : Nat} (hi : i < K.B) : K.bd s i ≠ K.hd t := fun h => by
  unfold Cf.bd Cf.hd at h
  have := slot_inj (b := 2 + K.B) (s := s) (t := t) (i := 2 + i) (j := 0) (by omega) (by omega) (by omega)
  omega
theorem Cf.bd_inj (K : Cf) {s t i j : Nat} (hi : i < K.B) (hj : j < K.B) (h : K.bd s i = K.bd t j) : s = t ∧ i = j := by
  unfold Cf.bd Cf.hd at h
  have := slot_inj (b := 2 + K.B) (s := s) (t := t) (i := 2 + i) (j := 2 + j) (by omega) (by omega) (by omega)
  omega

theorem Top.same {K : Cf} {X Y : List Nat} {tag : Nat} {F : List Nat} (h : Top K X tag F) (hl : Y.length = X.length) (h3 : Y.getD 3 0 = X.getD 3 0) (hk : ∀ s, Y.getD (K.lk s) 0 = X.getD (K.lk s) 0) : Top K Y tag F := by
  refine ⟨hl.trans h.len, ?_, by rw [h3]; exact h.tg, h.nd⟩
  rw [h3]
  exact h.ch.kept fun s _ => hk s
/-- A store at a place that is neither the top nor a link. -/
theorem Top.other {K : Cf} {X : List Nat} {tag i : Nat} {F : List Nat} (h : Top K X tag F) (h3 : i ≠ 3) (hk : ∀ s, i ≠ K.lk s) (v : Nat) : Top K (X.set i v) tag F :=
  h.same (by simp) (by rw [getD_set, if_neg (fun e => h3 e.1)]) (fun s => by rw [getD_set, if_neg (fun e => hk s e.1)])

/-- What a Pop that is under way knows. -/
structure PInv (K : Cf) (X : List Nat) (tag : Nat) (p : PS) : Prop where
  pc : p.pc ≤ 2
  old : 1 ≤ p.pc → p.tp / 65536 ≤ tag ∧ (p.tp / 65536 = tag → X.getD 3 0 = p.tp)
  nx : p.pc = 2 → p.tp / 65536 = tag → p.nx = nmd K.S (X.getD (K.lk (fst K.S p.tp).toNat) 0)
  some : 1 ≤ p.pc → fst K.S p.tp ≠ -1
/-- What a Push that is under way knows. -/
structure QInv (K : Cf) (X : List Nat) (tag : Nat) (q : QS) : Prop where
  pc : q.pc ≤ 2
  old : 1 ≤ q.pc → q.tp / 65536 ≤ tag ∧ (q.tp / 65536 = tag → X.getD 3 0 = q.tp)
  lk : q.pc = 2 → X.getD (K.lk q.sl) 0 = (fst K.S q.tp + 1).toNat

theorem popX_0n {K : Cf} {X : List Nat} {p : PS} {tag : Nat} (h : Top K X tag []) (hp : p.pc = 0) : popX K X p = (X, ⟨p.sl, true, 3, X.getD 3 0, p.nx⟩) := by
  have e := h.fst_nil
  unfold popX
  rw [if_pos hp, if_pos e, if_pos e]
theorem popX_0 {K : Cf} {X : List Nat} {p : PS} {tag s : Nat} {F : List Nat} (h : Top K X tag (s :: F)) (hp : p.pc = 0) : popX K X p = (X, ⟨p.sl, p.em, 1, X.getD 3 0, p.nx⟩) := by
  have e := h.fst
  unfold popX
  rw [if_pos hp, if_neg (by omega), if_neg (by omega)]
theorem popX_1 {K : Cf} {X : List Nat} {p : PS} {s : Nat} (hp : p.pc = 1) (hf : fst K.S p.tp = (s : Int)) : popX K X p = (X, ⟨p.sl, p.em, 2, p.tp, nmd K.S (X.getD (K.lk s) 0)⟩) := by
  unfold popX
  rw [if_neg (by omega), if_pos hp, hf]
  rfl
theorem popX_2 {K : Cf} {X : List Nat} {p : PS} (hp : p.pc = 2) (h : X.getD 3 0 = p.tp) : popX K X p = (X.set 3 (movedW p.tp p.nx), ⟨fst K.S p.tp, p.em, 3, p.tp, p.nx⟩) := by
  unfold popX
  rw [if_neg (by omega), if_neg (by omega), if_pos hp, if_pos h]
theorem popX_2n {K : Cf} {X : List Nat} {p : PS} (hp : p.pc = 2) (h : X.getD 3 0 ≠ p.tp) : popX K X p = (X, ⟨p.sl, p.em, 0, p.tp, p.nx⟩) := by
  unfold popX
  rw [if_neg (by omega), if_neg (by omega), if_pos hp, if_neg h]
theorem pushX_0 {K : Cf} {X : List Nat} {q : QS} (hq : q.pc = 0) : pushX K X q = (X, ⟨q.sl, 1, X.getD 3 0⟩) := by
  unfold pushX
  rw [if_pos hq]
theorem pushX_1 {K : Cf} {X : List Nat} {q : QS} (hq : q.pc = 1) : pushX K X q = (X.set (K.lk q.sl) (fst K.S q.tp + 1).toNat, ⟨q.sl, 2, q.tp⟩) := by
  unfold pushX
  rw [if_neg (by omega), if_pos hq]
theorem pushX_2 {K : Cf} {X : List Nat} {q : QS} (hq : q.pc = 2) (h : X.getD 3 0 = q.tp) : pushX K X q = (X.set 3 (movedW q.tp q.sl), ⟨q.sl, 3, q.tp⟩) := by
  unfold pushX
  rw [if_neg (by omega), if_neg (by omega), if_pos hq, if_pos h]
theorem pushX_2n {K : Cf} {X : List Nat} {q : QS} (hq : q.pc = 2) (h : X.getD 3 0 ≠ q.tp) : pushX K X q = (X, ⟨q.sl, 0, q.tp⟩) := by
  unfold pushX
  rw [if_neg (by omega), if_neg (by omega), if_pos hq, if_neg h]

theorem popCases {K : Cf} (hK : K.Ok) {X : List Nat} {p : PS} {tag : Nat} {F : List Nat} (tp : Top K X tag F) (hi : PInv K X tag p) (ht : tag + 1 < 281474976710656) :
    ((popX K X p).2.pc ≤ 2 ∧ (popX K X p).1 = X ∧ (popX K X p).2.sl = p.sl ∧ (popX K X p).2.em = p.em ∧ PInv K X tag (popX K X p).2) ∨
    (F = [] ∧ (popX K X p).2.pc = 3 ∧ (popX K X p).1 = X ∧ (popX K X p).2.em = true ∧ (popX K X p).2.sl = p.sl) ∨
    (∃ s F', F = s :: F' ∧ (popX K X p).2.pc = 3 ∧ (popX K X p).2.sl = (s : Int) ∧ (popX K X p).2.em = p.em ∧ (∃ v, (popX K X p).1 = X.set 3 v) ∧ Top K (popX K X p).1 (tag + 1) F') := by
  have hpc := hi.pc
  rcases (show p.pc = 0 ∨ p.pc = 1 ∨ p.pc = 2 by omega) with h0 | h1 | h2
  · cases F with
    | nil =>
      right; left
      rw [popX_0n tp h0]
      exact ⟨rfl, rfl, rfl, rfl, rfl⟩
    | cons s F =>
      left
      rw [popX_0 tp h0]
      refine ⟨by show 1 ≤ 2; omega, rfl, rfl, rfl, ⟨by show 1 ≤ 2; omega, fun _ => ⟨Nat.le_of_eq tp.tg, fun _ => rfl⟩, (fun h => by cases h), fun _ => ?_⟩⟩
      show fst K.S (X.getD 3 0) ≠ -1
      rw [tp.fst]; omega
  · left
    rcases fst_cases K.S p.tp with e | ⟨s, hs, e, _⟩
    · exact absurd e (hi.some (by omega))
    · rw [popX_1 h1 e]
      refine ⟨by show 2 ≤ 2; omega, rfl, rfl, rfl, ⟨by show 2 ≤ 2; omega, fun _ => hi.old (by omega), fun _ _ => ?_, fun _ => hi.some (by omega)⟩⟩
      show nmd K.S (X.getD (K.lk s) 0) = nmd K.S (X.getD (K.lk (fst K.S p.tp).toNat) 0)
      rw [e]; rfl
  · have ho := hi.old (by omega)
    by_cases hT : X.getD 3 0 = p.tp
    · have htag : p.tp / 65536 = tag := by rw [← hT]; exact tp.tg
      have hn := hi.nx h2 htag
      cases F with
      | nil => exact absurd (hT ▸ tp.fst_nil) (hi.some (by omega))
      | cons s F =>
        right; right
        have hf : fst K.S p.tp = (s : Int) := hT ▸ tp.fst
        rw [popX_2 h2 hT]
        refine ⟨s, F, rfl, rfl, hf, rfl, ⟨_, rfl⟩, ?_⟩
        show Top K (X.set 3 (movedW p.tp p.nx)) (tag + 1) F
        rw [hn, hf, ← hT]
        exact tp.popped hK ht
    · left
      rw [popX_2n h2 hT]
      exact ⟨by show 0 ≤ 2; omega, rfl, rfl, rfl, ⟨by show 0 ≤ 2; omega, (fun h => by have : 1 ≤ 0 := h; omega), (fun h => by cases h), fun h => by have : 1 ≤ 0 := h; omega⟩⟩

theorem pushCases {K : Cf} (hK : K.Ok) {X : List Nat} {q : QS} {tag : Nat} {F : List Nat} (tp : Top K X tag F) (hi : QInv K X tag q) (hs : q.sl ∉ F) (hsS : q.sl < K.S) (ht : tag + 1 < 281474976710656) :
    ((pushX K X q).2.pc ≤ 2 ∧ (pushX K X q).2.sl = q.sl ∧ QInv K (pushX K X q).1 tag (pushX K X q).2 ∧ Top K (pushX K X q).1 tag F ∧ ((pushX K X q).1 = X ∨ ∃ v, (pushX K X q).1 = X.set (K.lk q.sl) v)) ∨
    ((pushX K X q).2.pc = 3 ∧ (∃ v, (pushX K X q).1 = X.set 3 v) ∧ Top K (pushX K X q).1 (tag + 1) (q.sl :: F)) := by
  have hpc := hi.pc
  have hN := hK.N_b
  rcases (show q.pc = 0 ∨ q.pc = 1 ∨ q.pc = 2 by omega) with h0 | h1 | h2
  · left
    rw [pushX_0 h0]
    exact ⟨by show 1 ≤ 2; omega, rfl, ⟨by show 1 ≤ 2; omega, fun _ => ⟨Nat.le_of_eq tp.tg, fun _ => rfl⟩, fun h => by cases h⟩, tp, .inl rfl⟩
  · left
    rw [pushX_1 h1]
    have ho := hi.old (by omega)
    have e3 : (X.set (K.lk q.sl) (fst K.S q.tp + 1).toNat).getD 3 0 = X.getD 3 0 := by rw [getD_set, if_neg (by have := K.lk_4 q.sl; omega)]
    refine ⟨by show 2 ≤ 2; omega, rfl, ⟨by show 2 ≤ 2; omega, fun _ => ⟨ho.1, fun h => ?_⟩, fun _ => ?_⟩, tp.linked hs _, .inr ⟨_, rfl⟩⟩
    · show (X.set (K.lk q.sl) (fst K.S q.tp + 1).toNat).getD 3 0 = q.tp
      rw [e3]; exact ho.2 h
    · show (X.set (K.lk q.sl) (fst K.S q.tp + 1).toNat).getD (K.lk q.sl) 0 = _
      rw [getD_set, if_pos ⟨rfl, by rw [tp.len]; exact hK.lk_lt hsS⟩]
  · by_cases hT : X.getD 3 0 = q.tp
    · right
      rw [pushX_2 h2 hT]
      refine ⟨rfl, ⟨_, rfl⟩, ?_⟩
      show Top K (X.set 3 (movedW q.tp q.sl)) (tag + 1) (q.sl :: F)
      rw [← hT]
      exact tp.pushed hK hs hsS ht (by rw [hT]; exact hi.lk h2)
    · left
      rw [pushX_2n h2 hT]
      exact ⟨by show 0 ≤ 2; omega, rfl, ⟨by show 0 ≤ 2; omega, (fun h => by have : 1 ≤ 0 := h; omega), fun h => by cases h⟩, tp, .inl rfl⟩

/-- What others' steps do to the words, and what a machine knows behind them. -/
def Eff (K : Cf) (H : List Nat) (X : List Nat) (tag : Nat) (X' : List Nat) (tag' : Nat) : Prop :=
  (X' = X ∧ tag' = tag) ∨ (∃ v s, s ∈ H ∧ X' = X.set (K.lk s) v ∧ tag' = tag) ∨ (∃ v i, i ≠ 3 ∧ (∀ s, i ≠ K.lk s) ∧ X' = X.set i v ∧ tag' = tag) ∨ (∃ v, X' = X.set 3 v ∧ tag' = tag + 1)

theorem PInv.other {K : Cf} {H X X' F : List Nat} {tag tag' : Nat} {p : PS} (tp : Top K X tag F) (hi : PInv K X tag p) (he : Eff K H X tag X' tag') (hH : ∀ s ∈ H, s ∉ F) : PInv K X' tag' p := by
  rcases he with ⟨rfl, rfl⟩ | ⟨v, s, hs, rfl, rfl⟩ | ⟨v, i, h3, hk, rfl, rfl⟩ | ⟨v, rfl, rfl⟩
  · exact hi
  · have e3 : (X.set (K.lk s) v).getD 3 0 = X.getD 3 0 := by rw [getD_set, if_neg (by have := K.lk_4 s; omega)]
    refine ⟨hi.pc, fun h => ?_, fun h ht => ?_, hi.some⟩
    · rw [e3]; exact hi.old h
    · rw [hi.nx h ht, getD_set, if_neg]
      rintro ⟨e, _⟩
      have hT := (hi.old (by omega)).2 ht
      have hsm := hi.some (by omega)
      cases F with
      | nil => exact hsm (hT ▸ tp.fst_nil)
      | cons x F =>
        have hf : fst K.S p.tp = (x : Int) := hT ▸ tp.fst
        rw [hf] at e
        have hx := K.lk_inj e
        exact hH s hs (by rw [hx]; simp)
  · have e3 : (X.set i v).getD 3 0 = X.getD 3 0 := by rw [getD_set, if_neg (fun e => h3 e.1)]
    refine ⟨hi.pc, fun h => ?_, fun h ht => ?_, hi.some⟩
    · rw [e3]; exact hi.old h
    · rw [hi.nx h ht, getD_set, if_neg (fun e => hk _ e.1)]
  · refine ⟨hi.pc, fun h => ?_, fun h ht => ?_, hi.some⟩
    · have := hi.old h
      exact ⟨by omega, fun e => by omega⟩
    · have := hi.old (by omega)
      omega
theorem QInv.other {K : Cf} {H X X' : List Nat} {tag tag' : Nat} {q : QS} (hi : QInv K X tag q) (he : Eff K H X tag X' tag') (hH : q.sl ∉ H) : QInv K X' tag' q := by
  rcases he with ⟨rfl, rfl⟩ | ⟨v, s, hs, rfl, rfl⟩ | ⟨v, i, h3, hk, rfl, rfl⟩ | ⟨v, rfl, rfl⟩
  · exact hi
  · have e3 : (X.set (K.lk s) v).getD 3 0 = X.getD 3 0 := by rw [getD_set, if_neg (by have := K.lk_4 s; omega)]
    refine ⟨hi.pc, fun h => ?_, fun h => ?_⟩
    · rw [e3]; exact hi.old h
    · rw [getD_set, if_neg, hi.lk h]
      rintro ⟨e, _⟩
      exact hH (K.lk_inj e ▸ hs)
  · have e3 : (X.set i v).getD 3 0 = X.getD 3 0 := by rw [getD_set, if_neg (fun e => h3 e.1)]
    refine ⟨hi.pc, fun h => ?_, fun h => ?_⟩
    · rw [e3]; exact hi.old h
    · rw [getD_set, if_neg (fun e => hk _ e.1), hi.lk h]
  · refine ⟨hi.pc, fun h => ?_, fun h => ?_⟩
    · have := hi.old h
      exact ⟨by omega, fun e => by omega⟩
    · rw [getD_set, if_neg (by have := K.lk_4 q.sl; omega)]
      exact hi.lk h
theorem pop0_inv (K : Cf) (X : List Nat) (tag : Nat) : PInv K X tag ⟨-1, false, 0, 0, 0⟩ := ⟨by show 0 ≤ 2; omega, (fun h => by have : 1 ≤ 0 := h; omega), (fun h => by cases h), fun h => by have : 1 ≤ 0 := h; omega⟩
theorem push0_inv (K : Cf) (X : List Nat) (tag s : Nat) : QInv K X tag ⟨s, 0, 0⟩ := ⟨by show 0 ≤ 2; omega, (fun h => by have : 1 ≤ 0 := h; omega), fun h => by cases h⟩
theorem mkX_0 {K : Cf} {X : List Nat} {m : Mk} (h : m.pc = 0) : mkX K X m = ((popX K X m.p).1, if (popX K X m.p).2.pc = 3 then
        (if (popX K X m.p).2.em = true then { m with p := (popX K X m.p).2, full := true, pc := 4 } else { m with p := (popX K X m.p).2, pc := 1 })
      else { m with p := (popX K X m.p).2 }) := by unfold mkX; rw [if_pos h]
theorem mkX_1 {K : Cf} {X : List Nat} {m : Mk} (h : m.pc = 1) : mkX K X m = (X, { m with gen := genW (X.getD (K.hd m.slot) 0), pc := 2 }) := by unfold mkX; rw [if_neg (by omega), if_pos h]
theorem mkX_2 {K : Cf} {X : List Nat} {m : Mk} (h : m.pc = 2) : mkX K X m = (X.set (K.bd m.slot m.nx) (m.body.getD m.nx 0), { m with nx := m.nx + 1, pc := if m.nx + 1 = m.body.length then 3 else 2 }) := by unfold mkX; rw [if_neg (by omega), if_neg (by omega), if_pos h]
theorem mkX_3 {K : Cf} {X : List Nat} {m : Mk} (h : m.pc = 3) : mkX K X m = (X.set (K.hd m.slot) (madeW m.kind m.ar m.gen m.e), { m with sl := m.p.sl, pc := 4 }) := by unfold mkX; rw [if_neg (by omega), if_neg (by omega), if_neg (by omega), if_pos h]

/-- A Make alone, behind so many steps: the slot that it takes, the list that is left. -/
def AlAt (K : Cf) (tag s : Nat) (F : List Nat) (n : Nat) (X : List Nat) (m : Mk) : Prop :=
  (n ≤ 2 ∧ m.pc = 0 ∧ m.p.pc = n ∧ Top K X tag (s :: F) ∧ (1 ≤ n → X.getD 3 0 = m.p.tp) ∧ PInv K X tag m.p ∧ m.nx = 0) ∨
  (n = 3 ∧ m.pc = 1 ∧ m.p.sl = (s : Int) ∧ m.nx = 0 ∧ Top K X (tag + 1) F) ∨
  (4 ≤ n ∧ n < 4 + K.B ∧ m.pc = 2 ∧ m.nx = n - 4 ∧ m.p.sl = (s : Int) ∧ Top K X (tag + 1) F) ∨
  (n = 4 + K.B ∧ m.pc = 3 ∧ m.p.sl = (s : Int) ∧ Top K X (tag + 1) F) ∨
  (n = 5 + K.B ∧ m.pc = 4 ∧ m.sl = (s : Int) ∧ m.full = false ∧ Top K X (tag + 1) F)
theorem AlAt.step {K : Cf} (hK : K.Ok) {tag s n : Nat} {F X : List Nat} {m : Mk} (h : AlAt K tag s F n X m) (hf : m.Fit K) (hn : n < 5 + K.B) (ht : tag + 1 < 281474976710656) : AlAt K tag s F (n + 1) (mkX K X m).1 (mkX K X m).2 ∧ m.pc ≤ 3 ∧ ((mkX K X m).2.pc = 4 ↔ n = 4 + K.B) := by
  have hb3 := hK.b3
  rcases h with ⟨h1, h2, h3, h4, h5, h6, h7⟩ | ⟨h1, h2, h3, h4, h5⟩ | ⟨h1, h2, h3, h4, h5, h6⟩ | ⟨h1, h2, h3, h4⟩ | ⟨h1, _⟩
  · rw [mkX_0 h2]
    rcases popCases hK h4 h6 ht with ⟨a1, a2, a3, a4, a5⟩ | ⟨a1, _⟩ | ⟨s', F', a1, a2, a3, a4, ⟨v, a5⟩, a6⟩
    · simp only [if_neg (show ¬ (popX K X m.p).2.pc = 3 by omega)]
      rcases (show n = 0 ∨ n = 1 ∨ n = 2 by omega) with e | e | e
      · have ep := popX_0 (p := m.p) h4 (by omega)
        rw [ep] at a1 a2 a5 ⊢
        refine ⟨.inl ⟨by omega, h2, by show 1 = n + 1; omega, h4, fun _ => rfl, a5, h7⟩, by omega, ⟨fun h => ?_, fun h => by omega⟩⟩
        have : m.pc = 4 := h
        omega
      · have hT := h5 (by omega)
        have hfs : fst K.S m.p.tp = (s : Int) := hT ▸ h4.fst
        have ep := popX_1 (X := X) (p := m.p) (by omega) hfs
        rw [ep] at a1 a2 a5 ⊢
        refine ⟨.inl ⟨by omega, h2, by show 2 = n + 1; omega, h4, fun _ => hT, a5, h7⟩, by omega, ⟨fun h => ?_, fun h => by omega⟩⟩
        have : m.pc = 4 := h
        omega
      · have hT := h5 (by omega)
        have ep := popX_2 (p := m.p) (X := X) (K := K) (by omega) hT
        rw [ep] at a1
        have : 3 ≤ 2 := a1
        omega
    · cases a1
    · simp only [List.cons.injEq] at a1
      obtain ⟨rfl, rfl⟩ := a1
      have he := hf.em h2
      have a4' : ¬ (popX K X m.p).2.em = true := by rw [a4, he]; simp
      simp only [if_pos a2, if_neg a4']
      have e2 : n = 2 := by
        rcases (show n = 0 ∨ n = 1 ∨ n = 2 by omega) with e | e | e
        · have ep := popX_0 (p := m.p) h4 (by omega)
          rw [ep] at a2
          cases a2
        · have hT := h5 (by omega)
          have hfs : fst K.S m.p.tp = (s : Int) := hT ▸ h4.fst
          have ep := popX_1 (X := X) (p := m.p) (by omega) hfs
          rw [ep] at a2
          cases a2
        · exact e
      exact ⟨.inr (.inl ⟨by omega, rfl, a3, h7, a6⟩), by omega, ⟨(fun h => by cases h), fun h => by omega⟩⟩
  · rw [mkX_1 h2]
    exact ⟨.inr (.inr (.inl ⟨by omega, by omega, rfl, by show m.nx = _; omega, h3, h5⟩)), by omega, ⟨(fun h => by cases h), fun h => by omega⟩⟩
  · have hl := hf.ok.len
    have hnx := hf.ok.nx (by omega)
    rw [mkX_2 h3]
    have tp := h6.other (i := K.bd m.slot m.nx) (by have := K.bd_4 m.slot m.nx; omega) (fun t => K.bd_lk hnx) (m.body.getD m.nx 0)
    by_cases hd : m.nx + 1 = m.body.length
    · rw [if_pos hd]
      exact ⟨.inr (.inr (.inr (.inl ⟨by omega, rfl, h5, tp⟩))), by omega, ⟨(fun h => by cases h), fun h => by omega⟩⟩
    · rw [if_neg hd]
      exact ⟨.inr (.inr (.inl ⟨by omega, by omega, rfl, by show m.nx + 1 = _; omega, h5, tp⟩)), by omega, ⟨(fun h => by cases h), fun h => by omega⟩⟩
  · rw [mkX_3 h2]
    have tp := h4.other (i := K.hd m.slot) (by have := K.hd_4 m.slot; omega) (fun t => K.hd_lk _ _) (madeW m.kind m.ar m.gen m.e)
    exact ⟨.inr (.inr (.inr (.inr ⟨by omega, rfl, h3, (hf.sl (by omega)).2, tp⟩))), by omega, ⟨fun _ => h1, fun _ => rfl⟩⟩
  · omega
end Go.Proofs.YteechgmjaagbmabDoor
