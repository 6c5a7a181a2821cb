/- Sorting that keeps the order of like ones: the plain half: insertions. -/
import Derived.Test.YtecppcakgfohbabRows
import Derived.Sort.LotA
namespace Go.Proofs.Ytecppcakgfohbab
open Go.Sort

/-- By the comparison, then by number. -/
def rl (lt : Nat → Nat → Bool) (x y : Nat) : Bool := lt x y || (!lt y x && decide (x < y))
/-- Rising on a ≤ i < b. -/
def Srt (lt : Nat → Nat → Bool) (a b : Nat) (d : Array Nat) : Prop := ∀ i j, a ≤ i → i < j → j < b → rl lt d[i]! d[j]! = true
/-- All numbers of [a, m) are below those of [m, b). -/
def Crs (a m b : Nat) (d : Array Nat) : Prop := ∀ i j, a ≤ i → i < m → m ≤ j → j < b → d[i]! < d[j]!
variable {lt : Nat → Nat → Bool}

theorem rl_dn {x y : Nat} (h : x < y) : rl lt y x = lt y x := by
  unfold rl
  rw [decide_eq_false (by omega : ¬ y < x)]
  simp
theorem rl_up (hS : SWO lt) {x y : Nat} (h : x < y) : rl lt x y = !lt y x := by
  unfold rl
  rw [decide_eq_true h]
  cases h1 : lt x y with
  | true => simp [hS.asymmA h1]
  | false => simp
theorem rl_swo (hS : SWO lt) : SWO (rl lt) := by
  constructor
  · intro x
    unfold rl
    simp [hS.irrefl x]
  · intro x y z h1 h2
    unfold rl at *
    simp only [Bool.or_eq_true, Bool.and_eq_true, Bool.not_eq_true', decide_eq_true_eq] at h1 h2 ⊢
    rcases h1 with h1 | ⟨h1, h1'⟩ <;> rcases h2 with h2 | ⟨h2, h2'⟩
    · exact .inl (hS.trans _ _ _ h1 h2)
    · left
      cases h3 : lt x z with
      | true => rfl
      | false => rw [hS.ntrans _ _ _ h3 h2] at h1; cases h1
    · left
      cases h3 : lt x z with
      | true => rfl
      | false => rw [hS.ntrans _ _ _ h1 h3] at h2; cases h2
    · right
      exact ⟨hS.ntrans _ _ _ h2 h1, by omega⟩
  · intro x y z h1 h2
    unfold rl at *
    simp only [Bool.or_eq_false_iff, Bool.and_eq_false_iff, Bool.not_eq_false', decide_eq_false_iff_not] at h1 h2 ⊢
    obtain ⟨a1, a2⟩ := h1
    obtain ⟨b1, b2⟩ := h2
    have c1 := hS.ntrans _ _ _ a1 b1
    refine ⟨c1, ?_⟩
    cases h3 : lt z x with
    | true => exact .inl rfl
    | false =>
      right
      have e1 : lt y x = false := hS.ntrans _ _ _ b1 h3
      have e2 : lt z y = false := hS.ntrans _ _ _ h3 a1
      rw [e1] at a2
      rw [e2] at b2
      simp at a2 b2
      omega
theorem rl_tot {x y : Nat} (h : x ≠ y) : rl lt x y = true ∨ rl lt y x = true := by
  unfold rl
  cases lt x y <;> cases lt y x <;> simp
  omega
theorem rl_ne (hS : SWO lt) {x y : Nat} (h : rl lt x y = true) : x ≠ y := by
  rintro rfl
  rw [(rl_swo hS).irrefl] at h
  cases h
theorem rl_of_not {x y : Nat} (hn : x ≠ y) (h : rl lt y x = false) : rl lt x y = true := by
  rcases rl_tot (lt := lt) hn with h1 | h1
  · exact h1
  · rw [h] at h1; cases h1

/-! Insertions. -/
theorem ins_inner_eq (a : Nat) : ∀ (j : Nat) (d : Array Nat), j < d.size → (∀ p, a ≤ p → p < j → d[p]! < d[j]!) → insInner lt a j d = insInner (rl lt) a j d
  | 0, d, _, _ => by unfold insInner; rfl
  | j + 1, d, hj, h => by
    unfold insInner
    by_cases hc : j + 1 > a
    · have hlt := h j (by omega) (by omega)
      rw [rl_dn (lt := lt) hlt]
      by_cases hl : lt d[j + 1]! d[j]! = true
      · rw [if_pos (by simp [hc, hl]), if_pos (by simp [hc, hl])]
        have g := swp_get d hj (show j < d.size by omega)
        refine ins_inner_eq a j _ (by rw [size_swp]; omega) fun p h1 h2 => ?_
        rw [g, g, if_neg (by omega), if_neg (by omega), if_pos rfl]
        exact h p h1 (by omega)
      · rw [if_neg (by simp [hl]), if_neg (by simp [hl])]
    · rw [if_neg (by simp [hc]), if_neg (by simp [hc])]
theorem ins_inner_perm (a b : Nat) : ∀ (j : Nat) (d : Array Nat), j < b → b ≤ d.size → PermIn a b d (insInner lt a j d)
  | 0, d, _, _ => by unfold insInner; exact permIn_refl _ _ _
  | j + 1, d, hj, hb => by
    unfold insInner
    split
    · rename_i hc
      simp only [Bool.and_eq_true, decide_eq_true_eq] at hc
      exact permIn_trans _ _ _ _ _ (swp_permIn d a b (j + 1) j (by omega) hj (by omega) (by omega) hb) (ins_inner_perm a b j _ (by omega) (by rw [size_swp]; exact hb))
    · exact permIn_refl _ _ _
theorem ins_outer_eq (a b : Nat) : ∀ (n i : Nat) (d : Array Nat), b - i = n → a < i → b ≤ d.size → (∀ p q, a ≤ p → p < q → i ≤ q → q < b → d[p]! < d[q]!) → insOuter lt a b i d = insOuter (rl lt) a b i d
  | 0, i, d, hn, _, _, _ => by
    have e : ∀ l' : Nat → Nat → Bool, insOuter l' a b i d = d := fun l' => by rw [insOuter, if_neg (by omega)]
    rw [e, e]
  | n + 1, i, d, hn, hai, hb, h => by
    have hib : i < b := by omega
    have e : ∀ l' : Nat → Nat → Bool, insOuter l' a b i d = insOuter l' a b (i + 1) (insInner l' a i d) := fun l' => by rw [insOuter, if_pos hib]
    rw [e, e, ← ins_inner_eq a i d (by omega) fun p h1 h2 => h p i h1 h2 (Nat.le_refl _) hib]
    have hp := ins_inner_perm (lt := lt) a (i + 1) i d (by omega) (by omega)
    refine ins_outer_eq a b n (i + 1) _ (by omega) (by omega) (by rw [hp.1]; exact hb) fun p q h1 h2 h3 h4 => ?_
    rw [hp.2.1 q (by omega)]
    by_cases hpi : p < i + 1
    · exact permIn_all d _ a (i + 1) (fun x => x < d[q]!) (by omega) hp (fun t h5 h6 => h t q h5 (by omega) (by omega) h4) p h1 hpi
    · rw [hp.2.1 p (by omega)]
      exact h p q h1 h2 (by omega) h4

/-- No number twice on [a, b). -/
def Dst (a b : Nat) (d : Array Nat) : Prop := ∀ i j, a ≤ i → i < j → j < b → d[i]! ≠ d[j]!
theorem dst_iff {a b : Nat} {d : Array Nat} (hb : b ≤ d.size) : Dst a b d ↔ (d.extract a b).toList.Nodup := by
  rw [extract_toList d a b hb, List.Nodup, List.pairwise_map]
  constructor
  · intro h
    refine List.Pairwise.imp_of_mem (R := fun x y => x < y) (fun {x y} hx hy hxy => ?_) (List.pairwise_lt_range' (n := b - a) (s := a) (step := 1) (by omega))
    have h1 := List.mem_range'_1.1 hx
    have h2 := List.mem_range'_1.1 hy
    exact h x y (by omega) hxy (by omega)
  · intro h i j h1 h2 h3
    rw [List.pairwise_iff_getElem] at h
    have := h (i - a) (j - a) (by simp; omega) (by simp; omega) (by omega)
    simp only [List.getElem_range'] at this
    rw [show a + 1 * (i - a) = i by omega, show a + 1 * (j - a) = j by omega] at this
    exact this
theorem Dst.perm {a b : Nat} {d d' : Array Nat} (h : Dst a b d) (hb : b ≤ d.size) (hp : PermIn a b d d') : Dst a b d' :=
  (dst_iff (by rw [hp.1]; exact hb)).2 (hp.2.2.nodup_iff.2 ((dst_iff hb).1 h))
theorem Srt.dst (hS : SWO lt) {a b : Nat} {d : Array Nat} (h : Srt lt a b d) : Dst a b d := fun i j h1 h2 h3 => rl_ne hS (h i j h1 h2 h3)

theorem ins_spec (hS : SWO lt) {d : Array Nat} {a b : Nat} (hab : a ≤ b) (hb : b ≤ d.size) (h : ∀ p q, a ≤ p → p < q → q < b → d[p]! < d[q]!) : PermIn a b d (insertionSort lt d a b) ∧ Srt lt a b (insertionSort lt d a b) := by
  have e : insertionSort lt d a b = insertionSort (rl lt) d a b := by
    unfold insertionSort
    exact ins_outer_eq a b _ (a + 1) d rfl (by omega) hb fun p q h1 h2 h3 h4 => h p q h1 h2 h4
  rw [e]
  obtain ⟨h1, h2⟩ := insertionSort_holds (lt := rl lt) (rl_swo hS) d a b hab hb
  refine ⟨h1, fun i j h3 h4 h5 => ?_⟩
  have hd : Dst a b d := fun i j h1 h2 h3 => Nat.ne_of_lt (h i j h1 h2 h3)
  exact rl_of_not (hd.perm hb h1 i j h3 h4 h5) (h2 i j h3 h4 h5)
end Go.Proofs.Ytecppcakgfohbab
