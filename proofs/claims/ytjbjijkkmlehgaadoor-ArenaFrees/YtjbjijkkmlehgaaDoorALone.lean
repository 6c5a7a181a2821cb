/- Machines of arena beside a law's own blocks: one step of each, and what keeps them fit. -/
import Derived.Test.YtjbjijkkmlehgaaDoorAMake2
import Derived.Test.YtjbjijkkmlehgaaDoorANew2
namespace Go.Proofs.YtjbjijkkmlehgaaDoor
open Go.RowKit
open Mm (IsMem MS touched Only IsWords)
open Hh (WT wordOf bornN okW Hr)
open Tg (movedW)

theorem Cf.Ok.b3 {K : Cf} (h : K.Ok) : 3 ≤ K.B := by
  have hb := h.b
  unfold bsI at hb
  omega
theorem popX_wf {K : Cf} {X : List Nat} {p : PS} (h : PWf K p) (hX : ∀ i, X.getD i 0 < 18446744073709551616) : PWf K (popX K X p).2 := by
  unfold popX
  split
  · refine ⟨by show (if _ then 3 else 1) ≤ 3; split <;> omega, hX 3, ?_⟩
    show (if _ then 3 else 1) = 1 → _
    intro e hf
    rw [if_pos hf] at e
    omega
  split
  · exact ⟨by show 2 ≤ 3; omega, h.tp, by intro e; cases e⟩
  split
  · split
    · exact ⟨by show 3 ≤ 3; omega, h.tp, by intro e; cases e⟩
    · exact ⟨by show 0 ≤ 3; omega, h.tp, by intro e; cases e⟩
  · exact h
theorem popX_len (K : Cf) (X : List Nat) (p : PS) : (popX K X p).1.length = X.length := by
  unfold popX
  repeat' split
  all_goals simp only [List.length_set]
theorem pushX_len (K : Cf) (X : List Nat) (q : QS) : (pushX K X q).1.length = X.length := by
  unfold pushX
  repeat' split
  all_goals simp only [List.length_set]
theorem pushX_wf {K : Cf} {X : List Nat} {q : QS} (h : QWf K q) (hX : ∀ i, X.getD i 0 < 18446744073709551616) : QWf K (pushX K X q).2 := by
  unfold pushX
  split
  · exact ⟨by show 1 ≤ 3; omega, hX 3, h.sl⟩
  split
  · exact ⟨by show 2 ≤ 3; omega, h.tp, h.sl⟩
  split
  · split
    · exact ⟨by show 3 ≤ 3; omega, h.tp, h.sl⟩
    · exact ⟨by show 0 ≤ 3; omega, h.tp, h.sl⟩
  · exact h
theorem mkX_len (K : Cf) (X : List Nat) (m : Mk) : (mkX K X m).1.length = X.length := by
  unfold mkX
  repeat' split
  all_goals first | exact popX_len _ _ _ | simp only [List.length_set]
theorem frX_len (K : Cf) (X : List Nat) (f : Fr) : (frX K X f).1.length = X.length := by
  unfold frX
  split
  · rfl
  split
  · simp only [List.length_set]
  split
  · exact pushX_len _ _ _
  · rfl

/-- What a Make that is fit holds besides. -/
structure Mk.Fit (m : Mk) (K : Cf) : Prop where
  ok : m.Ok K
  tp : m.pc = 0 → m.p.pc = 2 → fst K.S m.p.tp ≠ -1
  em : m.pc = 0 → m.p.em = false
  sl : m.pc ≤ 3 → m.sl = -1 ∧ m.full = false
theorem mk0_fit {K : Cf} (hK : K.Ok) {kind ar ep R : Nat} {Y : List Nat} (hk : kind = 1 ∨ kind = 2) (ha : ar < 16) (he : ep < 18446744073709551616) (hY : ∀ i, Y.getD i 0 < 18446744073709551616) : (mk0 kind ar ep R K.B Y).Fit K :=
  ⟨⟨hk, ha, he, fillW_len _ _, fun i => getN_fill hY i, ⟨by show 0 ≤ 3; omega, by show 0 < 18446744073709551616; omega, fun h => by cases h⟩, by show 0 ≤ 4; omega, fun _ => by show 0 ≤ 2; omega, (fun h => by have : 1 ≤ 0 := h; omega), by show 0 < 4294967296; omega, fun _ => by show 0 < K.B; have := hK.b3; omega⟩, (fun _ h => by cases h), fun _ => rfl, fun _ => ⟨rfl, rfl⟩⟩
/-- What a Pop's step under way comes to. -/
theorem popX_more {K : Cf} {X : List Nat} {p : PS} (hpc : p.pc ≤ 2) (h1 : p.pc = 1 → fst K.S p.tp ≠ -1) (h2 : p.pc = 2 → fst K.S p.tp ≠ -1) (hem : p.em = false) :
    ((popX K X p).2.pc ≤ 2 ∧ (popX K X p).2.em = false ∧ (popX K X p).2.sl = p.sl ∧ ((popX K X p).2.pc = 2 → fst K.S (popX K X p).2.tp ≠ -1)) ∨
    ((popX K X p).2.pc = 3 ∧ (popX K X p).2.em = true ∧ (popX K X p).2.sl = p.sl) ∨
    ((popX K X p).2.pc = 3 ∧ (popX K X p).2.em = false ∧ ∃ s : Nat, s < K.S ∧ (popX K X p).2.sl = (s : Int)) := by
  rcases (show p.pc = 0 ∨ p.pc = 1 ∨ p.pc = 2 by omega) with h | h | h
  · have e : popX K X p = (X, ⟨p.sl, if fst K.S (X.getD 3 0) = -1 then true else p.em, if fst K.S (X.getD 3 0) = -1 then 3 else 1, X.getD 3 0, p.nx⟩) := by unfold popX; rw [if_pos h]
    rw [e]
    clear e
    generalize X.getD 3 0 = t
    by_cases hf : fst K.S t = -1
    · exact .inr (.inl (by simp [hf]))
    · exact .inl (by simp [hf, hem])
  · have e : popX K X p = (X, ⟨p.sl, p.em, 2, p.tp, nmd K.S (X.getD (K.lk (fst K.S p.tp).toNat) 0)⟩) := by unfold popX; rw [if_neg (by omega), if_pos h]
    rw [e]
    exact .inl ⟨Nat.le_refl _, hem, rfl, fun _ => h1 h⟩
  · by_cases hv : X.getD 3 0 = p.tp
    · have e : popX K X p = (X.set 3 (movedW p.tp p.nx), ⟨fst K.S p.tp, p.em, 3, p.tp, p.nx⟩) := by unfold popX; rw [if_neg (by omega), if_neg (by omega), if_pos h, if_pos hv]
      rw [e]
      refine .inr (.inr ⟨rfl, hem, ?_⟩)
      rcases fst_cases K.S p.tp with h0 | ⟨s, hs, h0, _⟩
      · exact absurd h0 (h2 h)
      · exact ⟨s, hs, h0⟩
    · have e : popX K X p = (X, ⟨p.sl, p.em, 0, p.tp, p.nx⟩) := by unfold popX; rw [if_neg (by omega), if_neg (by omega), if_pos h, if_neg hv]
      rw [e]
      exact .inl ⟨Nat.zero_le _, hem, rfl, fun h => by cases h⟩
theorem mkX_fit {K : Cf} {X : List Nat} {m : Mk} (h : m.Fit K) (h3 : m.pc ≤ 3) (hX : ∀ i, X.getD i 0 < 18446744073709551616) : (mkX K X m).2.Fit K := by
  have ok := h.ok
  rcases (show m.pc = 0 ∨ m.pc = 1 ∨ m.pc = 2 ∨ m.pc = 3 by omega) with e | e | e | e
  · have hwf := popX_wf (X := X) ok.wf hX
    have hn := ok.nx (by omega)
    have hs := h.sl (by omega)
    unfold mkX
    rw [if_pos e]
    rcases popX_more (X := X) (ok.p0 e) ok.wf.one (h.tp e) (h.em e) with ⟨a1, a2, a3, a4⟩ | ⟨a1, a2, a3⟩ | ⟨a1, a2, s, hs2, a3⟩
    · rw [if_neg (by omega)]
      exact ⟨⟨ok.kind, ok.ar, ok.e, ok.len, ok.fits, hwf, ok.pc, fun _ => a1, (fun h1 _ => by have : 1 ≤ m.pc := h1; omega), ok.gen, fun _ => hn⟩, fun _ => a4, fun _ => a2, fun _ => hs⟩
    · simp only [if_pos a1, if_pos a2]
      exact ⟨⟨ok.kind, ok.ar, ok.e, ok.len, ok.fits, hwf, Nat.le_refl _, (fun h => by cases h), (fun _ h1 => by have : 4 ≤ 3 := h1; omega), ok.gen, fun h1 => by have : 4 ≤ 2 := h1; omega⟩, (fun h => by cases h), (fun h => by cases h), fun h1 => by have : 4 ≤ 3 := h1; omega⟩
    · simp only [if_pos a1, a2, Bool.false_eq_true, if_false]
      exact ⟨⟨ok.kind, ok.ar, ok.e, ok.len, ok.fits, hwf, by show 1 ≤ 4; omega, (fun h => by cases h), (fun _ _ => ⟨s, hs2, a3⟩), ok.gen, fun _ => hn⟩, (fun h => by cases h), (fun h => by cases h), fun _ => hs⟩
  · have hn := ok.nx (by omega)
    have hs := h.sl (by omega)
    have hsm := ok.some (by omega) (by omega)
    unfold mkX
    rw [if_neg (by omega), if_pos e]
    exact ⟨⟨ok.kind, ok.ar, ok.e, ok.len, ok.fits, ok.wf, by show 2 ≤ 4; omega, (fun h => by cases h), (fun _ _ => hsm), genW_lt _, fun _ => hn⟩, (fun h => by cases h), (fun h => by cases h), fun _ => hs⟩
  · have hn := ok.nx (by omega)
    have hl := ok.len
    have hs := h.sl (by omega)
    have hsm := ok.some (by omega) (by omega)
    unfold mkX
    rw [if_neg (by omega), if_neg (by omega), if_pos e]
    by_cases hd : m.nx + 1 = m.body.length
    · rw [if_pos hd]
      exact ⟨⟨ok.kind, ok.ar, ok.e, ok.len, ok.fits, ok.wf, by show 3 ≤ 4; omega, (fun h => by cases h), (fun _ _ => hsm), ok.gen, fun h1 => by have : 3 ≤ 2 := h1; omega⟩, (fun h => by cases h), (fun h => by cases h), fun _ => hs⟩
    · rw [if_neg hd]
      exact ⟨⟨ok.kind, ok.ar, ok.e, ok.len, ok.fits, ok.wf, by show 2 ≤ 4; omega, (fun h => by cases h), (fun _ _ => hsm), ok.gen, fun _ => by show m.nx + 1 < K.B; omega⟩, (fun h => by cases h), (fun h => by cases h), fun _ => hs⟩
  · unfold mkX
    rw [if_neg (by omega), if_neg (by omega), if_neg (by omega), if_pos e]
    exact ⟨⟨ok.kind, ok.ar, ok.e, ok.len, ok.fits, ok.wf, Nat.le_refl _, (fun h => by cases h), (fun _ h1 => by have : 4 ≤ 3 := h1; omega), ok.gen, fun h1 => by have : 4 ≤ 2 := h1; omega⟩, (fun h => by cases h), (fun h => by cases h), fun h1 => by have : 4 ≤ 3 := h1; omega⟩
theorem frX_ok {K : Cf} {X : List Nat} {f : Fr} (h : f.Ok K) (h2 : f.pc ≤ 2) (hX : ∀ i, X.getD i 0 < 18446744073709551616) : (frX K X f).2.Ok K := by
  have hq := h.q2 h2
  rcases (show f.pc = 0 ∨ f.pc = 1 ∨ f.pc = 2 by omega) with e | e | e
  · unfold frX
    rw [if_pos e]
    exact ⟨h.wf, by show (if _ then 1 else 3) ≤ 3; split <;> omega, fun _ => hq, fdW_lt (hX _) _⟩
  · unfold frX
    rw [if_neg (by omega), if_pos e]
    by_cases hk : kdW f.fd = 4
    · rw [if_pos hk]
      exact ⟨h.wf, Nat.le_refl _, fun _ => hq, h.fd⟩
    · rw [if_neg hk]
      exact ⟨h.wf, by show 2 ≤ 3; omega, fun _ => hq, h.fd⟩
  · have hw := pushX_wf (X := X) h.wf hX
    unfold frX
    rw [if_neg (by omega), if_neg (by omega), if_pos e]
    by_cases hk : (pushX K X f.q).2.pc = 3
    · rw [if_pos hk]
      exact ⟨hw, Nat.le_refl _, (fun h1 => by have : 3 ≤ 2 := h1; omega), h.fd⟩
    · rw [if_neg hk]
      exact ⟨hw, h.pc, (fun _ => by have := hw.pc; show (pushX K X f.q).2.pc ≤ 2; omega), h.fd⟩

/-! Beside a law's own blocks. -/
def MkIn (wr : World) (K : Cf) (P : Nat) (m : Mk) : Prop := ∃ c, wr.heap[P]? = some (.cells c 60 (0, 0)) ∧ MkAt c K m ∧ IsWords wr m.bb m.body
def FrIn (wr : World) (K : Cf) (P : Nat) (f : Fr) : Prop := ∃ c, wr.heap[P]? = some (.cells c 72 (0, 0)) ∧ FrAt c K f
theorem MkIn.chg {L : List Nat} {w w' : World} {K : Cf} {P : Nat} {m : Mk} (h : MkIn w K P m) (c : Chg L w w') (h1 : P ∉ L) (h2 : m.bb ∉ L) : MkIn w' K P m := by
  obtain ⟨cc, a, b, d⟩ := h
  exact ⟨cc, c.at a h1, b, words_chg d c h2⟩
theorem FrIn.chg {L : List Nat} {w w' : World} {K : Cf} {P : Nat} {f : Fr} (h : FrIn w K P f) (c : Chg L w w') (h1 : P ∉ L) : FrIn w' K P f := by
  obtain ⟨cc, a, b⟩ := h
  exact ⟨cc, c.at a h1, b⟩
theorem MkIn.below {w w' : World} {K : Cf} {P : Nat} {m : Mk} (h : MkIn w K P m) (b : Below w.heap.size w w') : MkIn w' K P m := h.chg (L := []) (Chg.of_below b) (by simp) (by simp)
theorem FrIn.below {w w' : World} {K : Cf} {P : Nat} {f : Fr} (h : FrIn w K P f) (b : Below w.heap.size w w') : FrIn w' K P f := h.chg (L := []) (Chg.of_below b) (by simp)
theorem MkIn.lt {w : World} {K : Cf} {P : Nat} {m : Mk} (h : MkIn w K P m) : P < w.heap.size ∧ m.bb < w.heap.size := by
  obtain ⟨cc, a, b, d⟩ := h
  exact ⟨lt_of_block a, lt_of_block (show w.heap[m.bb]? = _ from d)⟩
theorem FrIn.lt {w : World} {K : Cf} {P : Nat} {f : Fr} (h : FrIn w K P f) : P < w.heap.size := by
  obtain ⟨cc, a, b⟩ := h
  exact lt_of_block a
theorem MkIn.cells {w : World} {K : Cf} {P : Nat} {m : Mk} (h : MkIn w K P m) : w.cell? ⟨P, 0, none⟩ = some (.int .i64 m.sl) ∧ w.cell? ⟨P, 1, none⟩ = some (.bool m.full) := by
  obtain ⟨cc, a, b, d⟩ := h
  unfold World.cell?
  simp only [a]
  exact ⟨b.sl, b.full⟩
theorem FrIn.cells {w : World} {K : Cf} {P : Nat} {f : Fr} (h : FrIn w K P f) : w.cell? ⟨P, 0, none⟩ = some (.bool f.back) ∧ w.cell? ⟨P, 1, none⟩ = some (.bool f.gone) := by
  obtain ⟨cc, a, b⟩ := h
  unfold World.cell?
  simp only [a]
  exact ⟨b.back, b.gone⟩

theorem mkX_body (K : Cf) (X : List Nat) (m : Mk) : (mkX K X m).2.bb = m.bb ∧ (mkX K X m).2.body = m.body ∧ (mkX K X m).2.kind = m.kind ∧ (mkX K X m).2.ar = m.ar ∧ (mkX K X m).2.e = m.e := by
  unfold mkX
  repeat' split
  all_goals exact ⟨rfl, rfl, rfl, rfl, rfl⟩
theorem mk_step {wr : World} {M G P : Nat} {X : List Nat} {T : Int} {K : Cf} {m : Mk} (hK : K.Ok) (mem : MemX wr M G X T) (wt : WT wr) (hl : X.length = K.N) (ht : 0 ≤ T ∧ T + 1 < 4611686018427387904) (pos : 0 < P ∧ 0 < M ∧ 0 < G) (hm : MkIn wr K P m) (hk : m.Ok K) (h3 : m.pc ≤ 3) (hP : P ≠ M ∧ P ≠ G) (hb : m.bb ≠ P ∧ m.bb ≠ M ∧ m.bb ≠ G) :
    Calls Tryd.prog 20 #[.pointer (some ⟨P, 0, none⟩), .pointer (some ⟨M, 0, none⟩)] wr fun r w' => r = .returned (.bool (decide ((mkX K X m).2.pc = 4))) ∧ MemX w' M G (mkX K X m).1 (T + 1) ∧ MkIn w' K P (mkX K X m).2 ∧ WT w' ∧ Chg [P, M, G] wr w' := by
  obtain ⟨c, hc, ha, hw⟩ := hm
  have is : InA wr wr M G K.N X T P c 60 := ⟨mem, wt, hl, ⟨ht.1, by omega⟩, hc, Chg.refl _ _, hP, pos⟩
  refine (mk_any hK is ha hk h3 hw (by simp; exact hb) ht.2).mono fun r w' ⟨h1, c', i', a'⟩ => ⟨h1, i'.mem, ⟨c', i'.blk, a', ?_⟩, i'.wt, i'.ch⟩
  obtain ⟨e1, e2, _⟩ := mkX_body K X m
  rw [e1, e2]
  exact words_chg hw i'.ch (by simp; exact hb)
theorem fr_step {wr : World} {M G P : Nat} {X : List Nat} {T : Int} {K : Cf} {f : Fr} (hK : K.Ok) (mem : MemX wr M G X T) (wt : WT wr) (hl : X.length = K.N) (ht : 0 ≤ T ∧ T + 1 < 4611686018427387904) (pos : 0 < P ∧ 0 < M ∧ 0 < G) (hm : FrIn wr K P f) (hk : f.Ok K) (h2 : f.pc ≤ 2) (hP : P ≠ M ∧ P ≠ G) :
    Calls Tryd.prog 26 #[.pointer (some ⟨P, 0, none⟩), .pointer (some ⟨M, 0, none⟩)] wr fun r w' => r = .returned (.bool (decide ((frX K X f).2.pc = 3))) ∧ MemX w' M G (frX K X f).1 (T + 1) ∧ FrIn w' K P (frX K X f).2 ∧ WT w' ∧ Chg [P, M, G] wr w' := by
  obtain ⟨c, hc, ha⟩ := hm
  have is : InA wr wr M G K.N X T P c 72 := ⟨mem, wt, hl, ⟨ht.1, by omega⟩, hc, Chg.refl _ _, hP, pos⟩
  exact (fr_any hK is ha hk h2 ht.2).mono fun r w' ⟨h1, c', i', a'⟩ => ⟨h1, i'.mem, ⟨c', i'.blk, a'⟩, i'.wt, i'.ch⟩
end Go.Proofs.YtjbjijkkmlehgaaDoor
