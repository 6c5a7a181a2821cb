/- What words that are laid have at their headers; no program in sight. -/
import Derived.Test.YteechgmjaagbmabDoorBLd0
namespace Go.Proofs.YteechgmjaagbmabDoor
open Hh (wordOf okW Hr rightH)

theorem Cf.bd_hd' (K : Cf) {s t i : Nat} (hi : i < K.B) : K.bd s i ≠ K.hd t := fun h => by
  have h1 : s * (2 + K.B) + (2 + i) = t * (2 + K.B) := by unfold Cf.bd Cf.hd at h; omega
  have h2 : (s * (2 + K.B) + (2 + i)) % (2 + K.B) = 2 + i := by rw [Nat.add_comm, Nat.add_mul_mod_self_right]; exact Nat.mod_eq_of_lt (by omega)
  have h3 : (t * (2 + K.B)) % (2 + K.B) = 0 := Nat.mul_mod_left _ _
  rw [h1, h3] at h2
  omega
theorem Cf.lk_hd' (K : Cf) {s t : Nat} : K.lk s ≠ K.hd t := fun h => by
  have h1 : s * (2 + K.B) + 1 = t * (2 + K.B) := by unfold Cf.lk Cf.hd at h; omega
  have h2 : (s * (2 + K.B) + 1) % (2 + K.B) = 1 := by rw [Nat.add_comm, Nat.add_mul_mod_self_right]; exact Nat.mod_eq_of_lt (by omega)
  have h3 : (t * (2 + K.B)) % (2 + K.B) = 0 := Nat.mul_mod_left _ _
  rw [h1, h3] at h2
  omega
theorem bodyX_len (K : Cf) (s : Nat) (b : Nat → Nat) (X : List Nat) : ∀ n, (bodyX K s b X n).length = X.length
  | 0 => rfl
  | n + 1 => by unfold bodyX; rw [List.length_set]; exact bodyX_len K s b X n
theorem bodyX_at (K : Cf) (s : Nat) (b : Nat → Nat) (X : List Nat) {i : Nat} : ∀ n, (∀ j, j < n → K.bd s j ≠ i) → (bodyX K s b X n).getD i 0 = X.getD i 0
  | 0, _ => rfl
  | n + 1, h => by
    unfold bodyX
    rw [getD_set, if_neg (fun c => h n (by omega) c.1)]
    exact bodyX_at K s b X n fun j hj => h j (by omega)
theorem fillX_len (K : Cf) (n : Nat) (Z : Nat → Sv) (s : Nat) (X : List Nat) : (fillX K n Z s X).length = X.length := by
  unfold fillX
  split
  · exact bodyX_len _ _ _ _ _
  · rfl
theorem fillX_at (K : Cf) (n : Nat) (Z : Nat → Sv) (s : Nat) (X : List Nat) {i : Nat} (h : ∀ j, j < K.B → K.bd s j ≠ i) : (fillX K n Z s X).getD i 0 = X.getD i 0 := by
  unfold fillX
  split
  · exact bodyX_at _ _ _ _ _ fun j hj => h j (by omega)
  · rfl
theorem slotX_len (K : Cf) (n : Nat) (Z : Nat → Sv) (s : Nat) (p : List Nat × Nat) : (slotX K n Z s p).1.length = p.1.length := by
  unfold slotX
  split
  · show (List.set _ _ _).length = _
    rw [List.length_set, List.length_set, fillX_len]
  · show (List.set _ _ _).length = _
    rw [List.length_set, fillX_len]
theorem slotX_hd (K : Cf) (n : Nat) (Z : Nat → Sv) (s : Nat) (p : List Nat × Nat) (t : Nat) (hl : K.hd s < p.1.length) : (slotX K n Z s p).1.getD (K.hd t) 0 = if s = t then hwS n Z s else p.1.getD (K.hd t) 0 := by
  have h0 : ((fillX K n Z s p.1).set (K.hd s) (hwS n Z s)).getD (K.hd t) 0 = if s = t then hwS n Z s else p.1.getD (K.hd t) 0 := by
    rw [getD_set]
    by_cases h : s = t
    · subst h
      rw [if_pos ⟨rfl, by rw [fillX_len]; exact hl⟩, if_pos rfl]
    · rw [if_neg (fun c => h (K.hd_inj c.1)), if_neg h]
      exact fillX_at K n Z s p.1 fun j hj => K.bd_hd' hj
  unfold slotX
  split
  · show (List.set _ _ _).getD _ _ = _
    rw [getD_set, if_neg (fun c => K.lk_hd' c.1)]
    exact h0
  · exact h0
theorem slotsX_len (K : Cf) (n : Nat) (Z : Nat → Sv) (X : List Nat) : ∀ d, (slotsX K n Z X d).1.length = X.length
  | 0 => rfl
  | d + 1 => by unfold slotsX; rw [slotX_len]; exact slotsX_len K n Z X d
theorem slotsX_hd (K : Cf) (n : Nat) (Z : Nat → Sv) (X : List Nat) (hl : X.length = K.N) : ∀ d, d ≤ K.S → ∀ s, K.S - d ≤ s → s < K.S → (slotsX K n Z X d).1.getD (K.hd s) 0 = hwS n Z s
  | 0, _, s, h1, h2 => by omega
  | d + 1, hd, s, h1, h2 => by
    unfold slotsX
    rw [slotX_hd _ _ _ _ _ _ (by rw [slotsX_len, hl]; exact K.hd_lt (by omega))]
    by_cases h : K.S - 1 - d = s
    · rw [if_pos h, h]
    · rw [if_neg h]
      exact slotsX_hd K n Z X hl d (by omega) s (by omega) h2
theorem rootX_len (K : Cf) (r : Nat → Nat) (k : Nat) (X : List Nat) : (rootX K r k X).length = X.length := by unfold rootX; split <;> rw [List.length_set]
theorem rootsX_len (K : Cf) (r : Nat → Nat) (X : List Nat) : ∀ k, (rootsX K r X k).length = X.length
  | 0 => rfl
  | k + 1 => by unfold rootsX; rw [rootX_len]; exact rootsX_len K r X k
theorem viewsX_len (K : Cf) (v : Nat → Nat) (X : List Nat) : ∀ k, (viewsX K v X k).length = X.length
  | 0 => rfl
  | k + 1 => by unfold viewsX; rw [List.length_set]; exact viewsX_len K v X k
/-- Places behind the clients' stay. -/
theorem rootsX_at {K : Cf} (hK : 1 ≤ K.C) (r : Nat → Nat) (X : List Nat) {i : Nat} (hi : 4 + K.C + K.C * K.D + 2 * K.C ≤ i ∨ i < 4) : ∀ k, k ≤ K.C * (K.D + 1) → (rootsX K r X k).getD i 0 = X.getD i 0
  | 0, _ => rfl
  | k + 1, h => by
    unfold rootsX rootX
    have hq : k % K.C < K.C := Nat.mod_lt _ hK
    have hm : (k % K.C + 1) * K.D ≤ K.C * K.D := Nat.mul_le_mul_right _ hq
    have hm2 : (k % K.C + 1) * K.D = k % K.C * K.D + K.D := Nat.succ_mul _ _
    have ih := rootsX_at hK r X hi k (by omega)
    generalize k / K.C = y at *
    generalize k % K.C = q at *
    generalize r k % 20 = rk at *
    split
    · rename_i hd
      rw [getD_set, if_neg (fun c => by have := c.1; unfold Cf.en at this; omega)]
      exact ih
    · rw [getD_set, if_neg (fun c => by have := c.1; unfold Cf.st at this; omega)]
      exact ih
theorem viewsX_at {K : Cf} (v : Nat → Nat) (X : List Nat) {i : Nat} (hi : 4 + K.C + K.C * K.D + 2 * K.C ≤ i ∨ i < 4) : ∀ k, k ≤ K.C → (viewsX K v X k).getD i 0 = X.getD i 0
  | 0, _ => rfl
  | k + 1, h => by
    unfold viewsX
    rw [getD_set, if_neg (fun c => by have := c.1; unfold Cf.vw at this; omega)]
    exact viewsX_at v X hi k (by omega)
/-- A laid memory's words behind the clients' are what the slots' loop left there. -/
theorem laidX_at {K : Cf} (hC : 1 ≤ K.C) (n : Nat) (Z : Nat → Sv) (nr : Nat) (r : Nat → Nat) (nv : Nat) (v : Nat → Nat) {i : Nat} (hi : 4 + K.C + K.C * K.D + 2 * K.C ≤ i) : (laidX K n Z nr r nv v).getD i 0 = (slotsX K n Z (memX K.C K.D K.B K.N (K.S - 1)) K.S).1.getD i 0 := by
  unfold laidX
  rw [getD_set, if_neg (fun c => by have := c.1; omega)]
  unfold heapX
  rw [viewsX_at _ _ (.inl hi) _ (by omega), rootsX_at hC _ _ (.inl hi) _ (by omega), getD_set, if_neg (fun c => by have := c.1; omega)]
theorem laidX_hd {K : Cf} (hC : 1 ≤ K.C) (n : Nat) (Z : Nat → Sv) (nr : Nat) (r : Nat → Nat) (nv : Nat) (v : Nat → Nat) {s : Nat} (hs : s < K.S) : (laidX K n Z nr r nv v).getD (K.hd s) 0 = hwS n Z s := by
  rw [laidX_at hC n Z nr r nv v (by unfold Cf.hd; omega)]
  exact slotsX_hd K n Z _ (memX_len _ _ _ _ _) K.S (Nat.le_refl _) s (by omega) hs
end Go.Proofs.YteechgmjaagbmabDoor
