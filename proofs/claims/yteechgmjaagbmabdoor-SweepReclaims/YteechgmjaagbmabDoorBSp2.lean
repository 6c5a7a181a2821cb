/- What is retired, counted by places; no program in sight. -/
import Derived.Test.YteechgmjaagbmabDoorBSp
namespace Go.Proofs.YteechgmjaagbmabDoor

theorem slot_one {b s t i : Nat} (hi : i < b) (h : s * b + i = t * b) : i = 0 := by
  have h1 : (s * b + i) % b = i := by rw [Nat.add_comm, Nat.add_mul_mod_self_right]; exact Nat.mod_eq_of_lt hi
  have h2 : (t * b) % b = 0 := Nat.mul_mod_left _ _
  rw [h, h2] at h1
  exact h1.symm
/-- Whether a place is a header's. -/
def hdI (K : Cf) (i : Nat) : Bool := decide ((wat K.C K.D K.B i).1 = 8)
theorem hdI_hd (K : Cf) (s : Nat) : hdI K (K.hd s) = true := by
  unfold hdI
  rw [show wat K.C K.D K.B (K.hd s) = (8, s, 0) from wat_header K.C K.D K.B s]
  rfl
theorem hdI_of {K : Cf} {i : Nat} (h : hdI K i = true) : ∃ s, i = K.hd s := by
  unfold hdI at h
  simp only [decide_eq_true_eq] at h
  obtain ⟨⟨a, s, j⟩, hw⟩ : ∃ t, wat K.C K.D K.B i = t := ⟨_, rfl⟩
  rw [hw] at h
  have h8 : a = 8 := h
  subst h8
  exact ⟨s, wat_inv hw⟩
theorem hd_S {K : Cf} {s : Nat} (h : K.hd s < K.N) : s < K.S := by
  refine Nat.lt_of_not_le fun c => ?_
  have h1 : K.S * (2 + K.B) ≤ s * (2 + K.B) := Nat.mul_le_mul_right _ c
  unfold Cf.hd Cf.N nW at h
  omega
def cnI (K : Cf) (e : Nat) (X : List Nat) : Nat → Nat
  | 0 => 0
  | i + 1 => cnI K e X i + (if (hdI K i && canS (X.getD i 0) e) = true then 1 else 0)
theorem cnI_no {K : Cf} {e : Nat} {X : List Nat} {i : Nat} : ∀ n, (∀ j, j < n → hdI K (i + j) = false) → cnI K e X (i + n) = cnI K e X i
  | 0, _ => rfl
  | n + 1, h => by
    have h0 := h n (by omega)
    have h1 : cnI K e X (i + (n + 1)) = cnI K e X (i + n) + (if (hdI K (i + n) && canS (X.getD (i + n) 0) e) = true then 1 else 0) := rfl
    rw [h1, h0, cnI_no n fun j hj => h j (by omega)]
    rfl
theorem cnI_base (K : Cf) (e : Nat) (X : List Nat) : ∀ m, cnI K e X (K.hd m) = cnS K e X m
  | 0 => by
    have h := cnI_no (K := K) (e := e) (X := X) (i := 0) (K.hd 0) fun j hj => by
      rw [Nat.zero_add]
      cases c : hdI K j
      · rfl
      · obtain ⟨s, rfl⟩ := hdI_of c
        unfold Cf.hd at hj
        omega
    rw [Nat.zero_add] at h
    rw [h]
    rfl
  | m + 1 => by
    have h0 := cnI_base K e X m
    have h1 : cnI K e X (K.hd m + 1) = cnI K e X (K.hd m) + (if (hdI K (K.hd m) && canS (X.getD (K.hd m) 0) e) = true then 1 else 0) := rfl
    rw [hdI_hd, Bool.true_and] at h1
    have h2 := cnI_no (K := K) (e := e) (X := X) (i := K.hd m + 1) (1 + K.B) fun j hj => by
      cases c : hdI K (K.hd m + 1 + j)
      · rfl
      · obtain ⟨s, hs⟩ := hdI_of c
        have := slot_one (b := 2 + K.B) (s := m) (t := s) (i := 1 + j) (by omega) (by unfold Cf.hd at hs; omega)
        omega
    have e1 : K.hd m + 1 + (1 + K.B) = K.hd (m + 1) := by
      unfold Cf.hd
      have h9 : (m + 1) * (2 + K.B) = m * (2 + K.B) + (2 + K.B) := Nat.succ_mul m (2 + K.B)
      rw [h9]
      omega
    rw [e1] at h2
    rw [h2, h1, h0]
    rfl
theorem cnI_all (K : Cf) (e : Nat) (X : List Nat) : cnI K e X K.N = cnS K e X K.S := cnI_base K e X K.S
theorem cnI_le (K : Cf) (e : Nat) (X : List Nat) : ∀ i, cnI K e X i ≤ i
  | 0 => Nat.le_refl _
  | i + 1 => by have := cnI_le K e X i; unfold cnI; split <;> omega
/-- What a swept word is, place by place. -/
theorem swp_at {K : Cf} {e : Nat} {X : List Nat} (hl : X.length = K.N) {i : Nat} (hi : i < K.N) : (swpX K e X K.S).getD i 0 = if (hdI K i && canS (X.getD i 0) e) = true then rtW (X.getD i 0) e else X.getD i 0 := by
  cases c : hdI K i
  · rw [swpX_other K e X K.S fun s _ h => by rw [h, hdI_hd] at c; cases c]
    rfl
  · obtain ⟨s, rfl⟩ := hdI_of c
    rw [swpX_head K e X (by omega) K.S (hd_S hi), Bool.true_and]
    cases hc : canS (X.getD (K.hd s) 0) e
    · unfold rtW
      rw [hc]
      rfl
    · rfl
theorem swp_fit {K : Cf} {e : Nat} {X : List Nat} (h : ∀ i, X.getD i 0 < 18446744073709551616) : ∀ m i, (swpX K e X m).getD i 0 < 18446744073709551616
  | 0, i => h i
  | m + 1, i => by
    unfold swpX
    rw [getD_set]
    split
    · exact rtW_lt (h _) _
    · exact swp_fit h m i
end Go.Proofs.YteechgmjaagbmabDoor
