/- A Sweep alone: what it comes to; no program in sight. -/
import Derived.Test.YteechgmjaagbmabDoorBAw0
namespace Go.Proofs.YteechgmjaagbmabDoor

/-- The words behind the first m slots. -/
def swpX (K : Cf) (e : Nat) (X : List Nat) : Nat → List Nat
  | 0 => X
  | m + 1 => (swpX K e X m).set (K.hd m) (rtW (X.getD (K.hd m) 0) e)
def cnS (K : Cf) (e : Nat) (X : List Nat) : Nat → Nat
  | 0 => 0
  | m + 1 => cnS K e X m + (if canS (X.getD (K.hd m) 0) e = true then 1 else 0)
theorem cnS_le (K : Cf) (e : Nat) (X : List Nat) : ∀ m, cnS K e X m ≤ m
  | 0 => Nat.le_refl _
  | m + 1 => by have := cnS_le K e X m; unfold cnS; split <;> omega
theorem swpX_len (K : Cf) (e : Nat) (X : List Nat) : ∀ m, (swpX K e X m).length = X.length
  | 0 => rfl
  | m + 1 => by unfold swpX; rw [List.length_set]; exact swpX_len K e X m
theorem swpX_other (K : Cf) (e : Nat) (X : List Nat) {i : Nat} : ∀ m, (∀ s, s < m → i ≠ K.hd s) → (swpX K e X m).getD i 0 = X.getD i 0
  | 0, _ => rfl
  | m + 1, h => by
    unfold swpX
    rw [getD_set, if_neg (fun c => h m (by omega) c.1.symm)]
    exact swpX_other K e X m fun s hs => h s (by omega)
theorem swpX_head (K : Cf) (e : Nat) (X : List Nat) {s : Nat} (hl : K.hd s < X.length) : ∀ m, s < m → (swpX K e X m).getD (K.hd s) 0 = rtW (X.getD (K.hd s) 0) e
  | 0, h => by omega
  | m + 1, h => by
    unfold swpX
    by_cases hm : s = m
    · subst hm
      rw [getD_set, if_pos ⟨rfl, by rw [swpX_len]; exact hl⟩]
    · rw [getD_set, if_neg (fun c => hm (K.hd_inj c.1).symm)]
      exact swpX_head K e X hl m (by omega)

theorem swRun_succ (K : Cf) (X : List Nat) (s : Sw) (n : Nat) : swRun K X s (n + 1) = swX K (swRun K X s n).1 (swRun K X s n).2 := rfl
/-- Where a Sweep is behind the first j slots. -/
def SpAt (K : Cf) (e : Nat) (X : List Nat) (j : Nat) : Prop :=
  (∃ was now, swRun K X (sw0 e) (j + cnS K e X j) = (swpX K e X j, ⟨cnS K e X j, e, if K.S ≤ j then 2 else 0, j, was, now⟩)) ∧
  ∀ k, k < j + cnS K e X j → (swRun K X (sw0 e) k).2.pc ≤ 1 ∧ ((swRun K X (sw0 e) (k + 1)).2.pc = 2 → K.S ≤ j ∧ k + 1 = j + cnS K e X j)
theorem spAt_step {K : Cf} {e : Nat} {X : List Nat} {j : Nat} (hj : j < K.S) (h : SpAt K e X j) : SpAt K e X (j + 1) := by
  obtain ⟨⟨was, now, h1⟩, h2⟩ := h
  rw [if_neg (by omega)] at h1
  generalize ht : j + cnS K e X j = t at *
  have hW : (swpX K e X j).getD (K.hd j) 0 = X.getD (K.hd j) 0 := swpX_other K e X j fun s hs c => by have := K.hd_inj c; omega
  have hc1 : cnS K e X (j + 1) = cnS K e X j + (if canS (X.getD (K.hd j) 0) e = true then 1 else 0) := rfl
  have hx1 : swpX K e X (j + 1) = (swpX K e X j).set (K.hd j) (rtW (X.getD (K.hd j) 0) e) := rfl
  have hp0 : (swRun K X (sw0 e) t).2.pc ≤ 1 := by rw [h1]; show 0 ≤ 1; omega
  cases hc : canS (X.getD (K.hd j) 0) e
  · rw [hc, if_neg (by simp), Nat.add_zero] at hc1
    have hr : rtW (X.getD (K.hd j) 0) e = X.getD (K.hd j) 0 := by unfold rtW; rw [hc]; rfl
    have hs1 : swRun K X (sw0 e) (t + 1) = (swpX K e X (j + 1), ⟨cnS K e X (j + 1), e, if K.S ≤ j + 1 then 2 else 0, j + 1, X.getD (K.hd j) 0, X.getD (K.hd j) 0⟩) := by
      rw [swRun_succ, h1, hc1, hx1, hr]
      unfold swX
      rw [if_pos rfl]
      show (swpX K e X j, (if canS ((swpX K e X j).getD (K.hd j) 0) e = true then _ else _)) = _
      rw [hW, hc, if_neg (by simp)]
      have hset := set_self (swpX K e X j) (K.hd j)
      rw [hW] at hset
      rw [hset]
      rfl
    have ht1 : j + 1 + cnS K e X (j + 1) = t + 1 := by rw [hc1]; omega
    refine ⟨⟨_, _, by rw [ht1]; exact hs1⟩, ?_⟩
    rw [ht1]
    intro k hk
    by_cases hkt : k < t
    · have q := h2 k hkt
      exact ⟨q.1, fun c => absurd (q.2 c).1 (by omega)⟩
    · obtain rfl : k = t := by omega
      refine ⟨hp0, fun c => ?_⟩
      rw [hs1] at c
      have c' : (if K.S ≤ j + 1 then 2 else 0) = 2 := c
      split at c'
      · exact ⟨by assumption, rfl⟩
      · omega
  · rw [hc, if_pos rfl] at hc1
    have hs1 : swRun K X (sw0 e) (t + 1) = (swpX K e X j, ⟨cnS K e X j, e, 1, j, X.getD (K.hd j) 0, rtW (X.getD (K.hd j) 0) e⟩) := by
      rw [swRun_succ, h1]
      unfold swX
      rw [if_pos rfl]
      show (swpX K e X j, (if canS ((swpX K e X j).getD (K.hd j) 0) e = true then _ else _)) = _
      rw [hW, hc, if_pos rfl]
    have hs2 : swRun K X (sw0 e) (t + 1 + 1) = (swpX K e X (j + 1), ⟨cnS K e X (j + 1), e, if K.S ≤ j + 1 then 2 else 0, j + 1, X.getD (K.hd j) 0, rtW (X.getD (K.hd j) 0) e⟩) := by
      rw [swRun_succ, hs1, hc1, hx1]
      unfold swX
      rw [if_neg (by show ¬ 1 = 0; omega), if_pos rfl]
      show (if (swpX K e X j).getD (K.hd j) 0 = X.getD (K.hd j) 0 then _ else _) = _
      rw [if_pos hW]
      rfl
    have ht1 : j + 1 + cnS K e X (j + 1) = t + 1 + 1 := by rw [hc1]; omega
    refine ⟨⟨_, _, by rw [ht1]; exact hs2⟩, ?_⟩
    rw [ht1]
    intro k hk
    by_cases hkt : k < t
    · have q := h2 k hkt
      exact ⟨q.1, fun c => absurd (q.2 c).1 (by omega)⟩
    · have hk2 : k = t ∨ k = t + 1 := by omega
      rcases hk2 with rfl | rfl
      · refine ⟨hp0, fun c => ?_⟩
        rw [hs1] at c
        have c' : 1 = 2 := c
        omega
      · refine ⟨by rw [hs1]; show 1 ≤ 1; omega, fun c => ?_⟩
        rw [hs2] at c
        have c' : (if K.S ≤ j + 1 then 2 else 0) = 2 := c
        split at c'
        · exact ⟨by assumption, rfl⟩
        · omega
theorem spAt_all {K : Cf} (hK : K.Ok) (e : Nat) (X : List Nat) : ∀ j, j ≤ K.S → SpAt K e X j
  | 0, _ => ⟨⟨0, 0, by rw [if_neg (by have := hK.s1; omega)]; rfl⟩, fun k hk => absurd hk (by show ¬ k < 0 + 0; omega)⟩
  | j + 1, h => spAt_step (by omega) (spAt_all hK e X j (by omega))
/-- How many steps it takes. -/
def spN (K : Cf) (e : Nat) (X : List Nat) : Nat := K.S + cnS K e X K.S
theorem sp_pc {K : Cf} (hK : K.Ok) (e : Nat) (X : List Nat) : ∀ k, k < spN K e X → (swRun K X (sw0 e) k).2.pc ≤ 1 ∧ ((swRun K X (sw0 e) (k + 1)).2.pc = 2 ↔ k + 1 = spN K e X) := by
  obtain ⟨⟨was, now, h1⟩, h2⟩ := spAt_all hK e X K.S (Nat.le_refl _)
  intro k hk
  obtain ⟨q1, q2⟩ := h2 k hk
  refine ⟨q1, fun c => (q2 c).2, fun c => ?_⟩
  rw [c]
  show (swRun K X (sw0 e) (K.S + cnS K e X K.S)).2.pc = 2
  rw [h1]
  show (if K.S ≤ K.S then 2 else 0) = 2
  rw [if_pos (Nat.le_refl _)]
theorem sp_end {K : Cf} (hK : K.Ok) (e : Nat) (X : List Nat) : (swRun K X (sw0 e) (spN K e X)).1 = swpX K e X K.S ∧ (swRun K X (sw0 e) (spN K e X)).2.gone = cnS K e X K.S ∧ (swRun K X (sw0 e) (spN K e X)).2.pc = 2 := by
  obtain ⟨⟨was, now, h1⟩, _⟩ := spAt_all hK e X K.S (Nat.le_refl _)
  have h1' : swRun K X (sw0 e) (spN K e X) = _ := h1
  rw [h1']
  exact ⟨rfl, rfl, by show (if K.S ≤ K.S then 2 else 0) = 2; rw [if_pos (Nat.le_refl _)]⟩
end Go.Proofs.YteechgmjaagbmabDoor
