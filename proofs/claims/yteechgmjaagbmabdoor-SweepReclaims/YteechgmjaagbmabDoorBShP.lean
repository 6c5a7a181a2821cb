/- A slot that is marked between a Sweep's load and its swap; no program in sight. -/
import Derived.Test.YteechgmjaagbmabDoorBSp2
import Derived.Test.YteechgmjaagbmabDoorBLd1
import Derived.Test.YteechgmjaagbmabDoorBHeads
namespace Go.Proofs.YteechgmjaagbmabDoor
open Hh (wordOf okW Hr rightH)

/-- A Sweep that stands at its swap of the first slot. -/
def sh1 (e W : Nat) : Sw := ⟨0, e, 1, 0, W, rtW W e⟩
theorem sh_first {K : Cf} {X : List Nat} {e W : Nat} (hW : X.getD (K.hd 0) 0 = W) (hc : canS W e = true) : swX K X (sw0 e) = (X, sh1 e W) := by
  unfold swX
  rw [if_pos (show (sw0 e).pc = 0 from rfl)]
  show (X, if canS (X.getD (K.hd 0) 0) e = true then _ else _) = _
  rw [hW, hc, if_pos rfl]
  show (X, (⟨0, e, 1, 0, X.getD (K.hd 0) 0, rtW (X.getD (K.hd 0) 0) e⟩ : Sw)) = _
  rw [hW]
  rfl
theorem sh_run {K : Cf} (hK : K.Ok) {X : List Nat} {e W V : Nat} (hV : X.getD (K.hd 0) 0 = V) (hne : V ≠ W) (hn : ∀ s, s < K.S → canS (X.getD (K.hd s) 0) e = false) : ∀ m, m ≤ K.S → ∃ a b, swRun K X (sh1 e W) (m + 1) = (X, ⟨0, e, if K.S ≤ m then 2 else 0, m, a, b⟩)
  | 0, _ => by
    refine ⟨W, rtW W e, ?_⟩
    have h1 := hK.s1
    rw [if_neg (by omega)]
    show swX K X (sh1 e W) = _
    unfold swX
    rw [if_neg (by show ¬ 1 = 0; omega), if_pos (show (sh1 e W).pc = 1 from rfl)]
    show (if X.getD (K.hd 0) 0 = W then _ else _) = _
    rw [hV, if_neg hne]
    rfl
  | m + 1, h => by
    obtain ⟨a, b, ih⟩ := sh_run hK hV hne hn m (by omega)
    rw [if_neg (by omega)] at ih
    refine ⟨X.getD (K.hd m) 0, X.getD (K.hd m) 0, ?_⟩
    rw [swRun_succ, ih]
    unfold swX
    rw [if_pos rfl]
    show (X, if canS (X.getD (K.hd m) 0) e = true then _ else _) = _
    rw [hn m (by omega), if_neg (by simp)]
    rfl
theorem sh_pc {K : Cf} (hK : K.Ok) {X : List Nat} {e W V : Nat} (hV : X.getD (K.hd 0) 0 = V) (hne : V ≠ W) (hn : ∀ s, s < K.S → canS (X.getD (K.hd s) 0) e = false) : ∀ k, k < K.S + 1 → (swRun K X (sh1 e W) k).2.pc ≤ 1 ∧ ((swRun K X (sh1 e W) (k + 1)).2.pc = 2 ↔ k + 1 = K.S + 1) := by
  intro k hk
  have hlast : (swRun K X (sh1 e W) (k + 1)).2.pc = 2 ↔ k + 1 = K.S + 1 := by
    obtain ⟨a, b, h⟩ := sh_run hK hV hne hn k (by omega)
    rw [h]
    show (if K.S ≤ k then 2 else 0) = 2 ↔ _
    split <;> omega
  refine ⟨?_, hlast⟩
  cases k with
  | zero => show 1 ≤ 1; omega
  | succ k =>
    obtain ⟨a, b, h⟩ := sh_run hK hV hne hn k (by omega)
    rw [h]
    show (if K.S ≤ k then 2 else 0) ≤ 1
    rw [if_neg (by omega)]
    omega
theorem sh_end {K : Cf} (hK : K.Ok) {X : List Nat} {e W V : Nat} (hV : X.getD (K.hd 0) 0 = V) (hne : V ≠ W) (hn : ∀ s, s < K.S → canS (X.getD (K.hd s) 0) e = false) : (swRun K X (sh1 e W) (K.S + 1)).1 = X ∧ (swRun K X (sh1 e W) (K.S + 1)).2.gone = 0 := by
  obtain ⟨a, b, h⟩ := sh_run hK hV hne hn K.S (Nat.le_refl _)
  rw [h]
  exact ⟨rfl, rfl⟩
theorem can_zero (e : Nat) : canS 0 e = false := by unfold canS; rfl
/-- The words of one node alone. -/
theorem sh_laid {K : Cf} {Z : Nat → Sv} (hok : (Z 0).ok = true) {s : Nat} (hs : s < K.S) (hC : 1 ≤ K.C) (r v : Nat → Nat) : (laidX K 1 Z 0 r 0 v).getD (K.hd s) 0 = if s = 0 then (Z 0).word else 0 := by
  rw [laidX_hd hC 1 Z 0 r 0 v hs]
  unfold hwS useS
  by_cases h : s = 0
  · subst h
    rw [hok, if_pos rfl]
    rfl
  · rw [if_neg h, decide_eq_false (by omega)]
    rfl
theorem can_word {Kk M A N S e : Nat} (g : Bool) (h : Hr Kk M A N S) (hk : Kk = 1) : canS (wordOf Kk M g.toNat A N S) e = decide (M ≠ Hh.blackN e) := by
  obtain ⟨p0, p1, _⟩ := Hh.word_parts g h
  unfold canS Hh.whiteH
  rw [Hh.okW_word g h, p0, p1, Hh.black_nat, hk]
  have e1 : Hh.usedK ((1 : Nat) : Int) = true := rfl
  rw [e1, Bool.true_and, Bool.true_and]
  exact decide_eq_decide.2 (by omega)
theorem mkd_word {Kk M A N S e : Nat} (g : Bool) (h : Hr Kk M A N S) (hk : Kk = 1) : mkdW (wordOf Kk M g.toNat A N S) e = decide (M = Hh.blackN e) := by
  obtain ⟨p0, p1, _⟩ := Hh.word_parts g h
  unfold mkdW livW
  rw [Hh.okW_word g h, p0, p1, hk]
  have e1 : Hh.usedK ((1 : Nat) : Int) = true := rfl
  rw [e1, Bool.true_and, Bool.true_and]
  exact decide_eq_decide.2 (by omega)
end Go.Proofs.YteechgmjaagbmabDoor
