/- The free list of words that are laid; no program in sight. -/
import Derived.Test.YteechgmjaagbmabDoorAFl
import Derived.Test.YteechgmjaagbmabDoorBLd1
namespace Go.Proofs.YteechgmjaagbmabDoor
open Hh (wordOf okW Hr rightH)

/-- The free slots from S - d on, in their order. -/
def frL (S n : Nat) (Z : Nat → Sv) : Nat → List Nat
  | 0 => []
  | d + 1 => if hwS n Z (S - 1 - d) % 8 = 0 then (S - 1 - d) :: frL S n Z d else frL S n Z d
theorem frL_mem {S n : Nat} {Z : Nat → Sv} : ∀ {d t : Nat}, d ≤ S → t ∈ frL S n Z d → S - d ≤ t ∧ t < S ∧ hwS n Z t % 8 = 0
  | 0, t, _, h => by cases h
  | d + 1, t, hd, h => by
    unfold frL at h
    split at h
    · rename_i hk
      rcases List.mem_cons.1 h with rfl | h
      · exact ⟨by omega, by omega, hk⟩
      · have := frL_mem (by omega) h
        exact ⟨by omega, this.2⟩
    · have := frL_mem (by omega) h
      exact ⟨by omega, this.2⟩
theorem frL_nd {S n : Nat} {Z : Nat → Sv} : ∀ {d : Nat}, d ≤ S → (frL S n Z d).Nodup
  | 0, _ => List.nodup_nil
  | d + 1, hd => by
    unfold frL
    split
    · exact List.nodup_cons.2 ⟨fun h => by have := (frL_mem (by omega) h).1; omega, frL_nd (by omega)⟩
    · exact frL_nd (by omega)
theorem slotX_lk (K : Cf) (n : Nat) (Z : Nat → Sv) (s : Nat) (p : List Nat × Nat) {t : Nat} (h : s ≠ t) : (slotX K n Z s p).1.getD (K.lk t) 0 = p.1.getD (K.lk t) 0 := by
  have h0 : ((fillX K n Z s p.1).set (K.hd s) (hwS n Z s)).getD (K.lk t) 0 = p.1.getD (K.lk t) 0 := by
    rw [getD_set, if_neg (fun c => K.hd_lk s t c.1)]
    exact fillX_at K n Z s p.1 fun j hj => K.bd_lk hj
  unfold slotX
  split
  · show (List.set _ _ _).getD _ _ = _
    rw [getD_set, if_neg (fun c => h (K.lk_inj c.1))]
    exact h0
  · exact h0
theorem slotsX_ch {K : Cf} (hK : K.Ok) (n : Nat) (Z : Nat → Sv) (X : List Nat) (hl : X.length = K.N) : ∀ d, d ≤ K.S → Ch K (slotsX K n Z X d).1 (slotsX K n Z X d).2 (frL K.S n Z d) ∧ (slotsX K n Z X d).2 ≤ K.S
  | 0, _ => ⟨by show ¬ (1 ≤ 0 ∧ _); omega, Nat.zero_le _⟩
  | d + 1, hd => by
    obtain ⟨ih, ht⟩ := slotsX_ch hK n Z X hl d (by omega)
    have hk : ∀ t ∈ frL K.S n Z d, (slotX K n Z (K.S - 1 - d) (slotsX K n Z X d)).1.getD (K.lk t) 0 = (slotsX K n Z X d).1.getD (K.lk t) 0 := fun t hm => slotX_lk K n Z _ _ (by have := (frL_mem (by omega) hm).1; omega)
    have ih2 := ih.kept hk
    unfold slotsX frL
    generalize hp : slotsX K n Z X d = p at *
    generalize hs : K.S - 1 - d = s at *
    by_cases h8 : hwS n Z s % 8 = 0
    · rw [if_pos h8]
      have e : slotX K n Z s p = (((fillX K n Z s p.1).set (K.hd s) (hwS n Z s)).set (K.lk s) p.2, s + 1) := by unfold slotX; rw [if_pos h8]
      rw [e] at ih2 ⊢
      refine ⟨⟨rfl, by omega, ?_⟩, by show s + 1 ≤ _; omega⟩
      have e2 : (((fillX K n Z s p.1).set (K.hd s) (hwS n Z s)).set (K.lk s) p.2).getD (K.lk s) 0 = p.2 := by
        have hlen : K.lk s < ((fillX K n Z s p.1).set (K.hd s) (hwS n Z s)).length := by
          rw [List.length_set, fillX_len, ← hp, slotsX_len, hl]
          exact hK.lk_lt (by omega)
        rw [getD_set, if_pos ⟨rfl, hlen⟩]
      show Ch K _ ((((fillX K n Z s p.1).set (K.hd s) (hwS n Z s)).set (K.lk s) p.2).getD (K.lk s) 0) _
      rw [e2]
      exact ih2
    · rw [if_neg h8]
      have e : (slotX K n Z s p).2 = p.2 := by unfold slotX; rw [if_neg h8]
      rw [e]
      exact ⟨ih2, ht⟩
theorem laidX_len {K : Cf} (n : Nat) (Z : Nat → Sv) (nr : Nat) (r : Nat → Nat) (nv : Nat) (v : Nat → Nat) : (laidX K n Z nr r nv v).length = K.N := by
  unfold laidX heapX
  rw [List.length_set, viewsX_len, rootsX_len, List.length_set, slotsX_len]
  exact memX_len _ _ _ _ _
/-- The free list of a memory that is laid. -/
theorem laidX_top {K : Cf} (hK : K.Ok) (hC : 1 ≤ K.C) (n : Nat) (Z : Nat → Sv) (nr : Nat) (r : Nat → Nat) (nv : Nat) (v : Nat → Nat) : Top K (laidX K n Z nr r nv v) 0 (frL K.S n Z K.S) := by
  have hN := hK.N_b
  have hS := hK.s64
  obtain ⟨h1, h2⟩ := slotsX_ch hK n Z (memX K.C K.D K.B K.N (K.S - 1)) (memX_len _ _ _ _ _) K.S (Nat.le_refl _)
  have e3 : (laidX K n Z nr r nv v).getD 3 0 = (slotsX K n Z (memX K.C K.D K.B K.N (K.S - 1)) K.S).2 := by
    unfold laidX
    rw [getD_set, if_neg (fun c => by have := c.1; omega)]
    unfold heapX
    rw [viewsX_at _ _ (.inr (by omega)) _ (by omega), rootsX_at hC _ _ (.inr (by omega)) _ (by omega), getD_set, if_pos ⟨rfl, by rw [slotsX_len, memX_len]; omega⟩]
  refine ⟨laidX_len n Z nr r nv v, ?_, ?_, frL_nd (Nat.le_refl _)⟩
  · rw [e3, Nat.mod_eq_of_lt (by omega)]
    exact h1.kept fun t _ => laidX_at hC n Z nr r nv v (by unfold Cf.lk; omega)
  · rw [e3]
    omega
end Go.Proofs.YteechgmjaagbmabDoor
