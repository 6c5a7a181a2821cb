/- Sorting that keeps the order of like ones: the plain half: merges. -/
import Derived.Test.YtecppcakgfohbabHP
namespace Go.Proofs.Ytecppcakgfohbab
open Go.Sort
variable {lt : Nat → Nat → Bool}

theorem Srt.sub {a b a' b' : Nat} {d : Array Nat} (h : Srt lt a b d) (ha : a ≤ a') (hb : b' ≤ b) : Srt lt a' b' d := fun i j h1 h2 h3 => h i j (by omega) h2 (by omega)
theorem Srt.of_eq {a b : Nat} {d d' : Array Nat} (h : Srt lt a b d) (e : ∀ i, a ≤ i → i < b → d'[i]! = d[i]!) : Srt lt a b d' := fun i j h1 h2 h3 => by rw [e i h1 (by omega), e j (by omega) h3]; exact h i j h1 h2 h3
theorem Srt.tiny {a b : Nat} {d : Array Nat} (h : b ≤ a + 1) : Srt lt a b d := fun i j h1 h2 h3 => by omega
theorem rl_trans (hS : SWO lt) {x y z : Nat} (h1 : rl lt x y = true) (h2 : rl lt y z = true) : rl lt x z = true := (rl_swo hS).trans _ _ _ h1 h2

/-! A search by halves for where one number of the left comes among the right. -/
theorem bsA_lo (hS : SWO lt) {m b : Nat} {d : Array Nat} {x h : Nat} (hs : Srt lt m b d) (h1 : m ≤ h) (h2 : h < b) (hx : x < d[h]!) (hl : lt d[h]! x = true) : ∀ k, m ≤ k → k < h + 1 → rl lt d[k]! x = true := fun k h3 h4 => by
  have e : rl lt d[h]! x = true := by rw [rl_dn hx]; exact hl
  by_cases hk : k = h
  · subst hk; exact e
  · exact rl_trans hS (hs k h h3 (by omega) h2) e
theorem bsA_hi (hS : SWO lt) {m b : Nat} {d : Array Nat} {x h : Nat} (hs : Srt lt m b d) (h1 : m ≤ h) (hx : x < d[h]!) (hl : lt d[h]! x = false) : ∀ k, h ≤ k → k < b → rl lt x d[k]! = true := fun k h3 h4 => by
  have e : rl lt x d[h]! = true := by rw [rl_up hS hx, hl]; rfl
  by_cases hk : k = h
  · subst hk; exact e
  · exact rl_trans hS e (hs h k h1 (by omega) h4)
/-! .. and one of the right among the left. -/
theorem bsB_lo (hS : SWO lt) {a m : Nat} {d : Array Nat} {x h : Nat} (hs : Srt lt a m d) (h1 : a ≤ h) (h2 : h < m) (hx : d[h]! < x) (hl : lt x d[h]! = false) : ∀ k, a ≤ k → k < h + 1 → rl lt d[k]! x = true := fun k h3 h4 => by
  have e : rl lt d[h]! x = true := by rw [rl_up hS hx, hl]; rfl
  by_cases hk : k = h
  · subst hk; exact e
  · exact rl_trans hS (hs k h h3 (by omega) h2) e
theorem bsB_hi (hS : SWO lt) {a m : Nat} {d : Array Nat} {x h : Nat} (hs : Srt lt a m d) (h1 : a ≤ h) (hx : d[h]! < x) (hl : lt x d[h]! = true) : ∀ k, h ≤ k → k < m → rl lt x d[k]! = true := fun k h3 h4 => by
  have e : rl lt x d[h]! = true := by rw [rl_dn hx]; exact hl
  by_cases hk : k = h
  · subst hk; exact e
  · exact rl_trans hS e (hs h k h1 (by omega) h4)

/-- The first number was moved up to k. -/
structure ShU (a b k : Nat) (d dk : Array Nat) : Prop where
  perm : PermIn a b d dk
  get : ∀ t, dk[t]! = if a ≤ t ∧ t < k then d[t + 1]! else if t = k then d[a]! else d[t]!
theorem ShU.start (a b : Nat) (d : Array Nat) : ShU a b a d d := ⟨permIn_refl _ _ _, fun t => by
  rw [if_neg (by omega)]
  split
  · rename_i h; rw [h]
  · rfl⟩
theorem ShU.step {a b k : Nat} {d dk : Array Nat} (h : ShU a b k d dk) (ha : a ≤ k) (hk : k + 1 < b) (hb : b ≤ d.size) : ShU a b (k + 1) d (swp dk k (k + 1)) := by
  have hs := h.perm.1
  refine ⟨permIn_trans _ _ _ _ _ h.perm (swp_permIn dk a b k (k + 1) ha (by omega) (by omega) hk (by omega)), fun t => ?_⟩
  rw [swp_get dk (by omega) (by omega)]
  by_cases h1 : t = k + 1
  · rw [if_pos h1, if_neg (by omega), if_pos h1, h.get, if_neg (by omega), if_pos rfl]
  · by_cases h2 : t = k
    · rw [if_neg h1, if_pos h2, if_pos (by omega), h.get, if_neg (by omega), if_neg (by omega), h2]
    · rw [if_neg h1, if_neg h2, h.get]
      by_cases h3 : a ≤ t ∧ t < k
      · rw [if_pos h3, if_pos (by omega)]
      · rw [if_neg h3, if_neg h2, if_neg (by omega), if_neg h1]
theorem ShU.srt {a b i : Nat} {d dk : Array Nat} (hk : ShU a b (i - 1) d dk) (hai : a + 1 ≤ i) (hib : i ≤ b) (hs : Srt lt (a + 1) b d) (h1 : ∀ k, a + 1 ≤ k → k < i → rl lt d[k]! d[a]! = true) (h2 : ∀ k, i ≤ k → k < b → rl lt d[a]! d[k]! = true) : Srt lt a b dk := by
  intro p q hp hpq hq
  rw [hk.get, hk.get]
  by_cases e1 : p < i - 1
  · rw [if_pos (by omega : a ≤ p ∧ p < i - 1)]
    by_cases e2 : q < i - 1
    · rw [if_pos (by omega : a ≤ q ∧ q < i - 1)]; exact hs _ _ (by omega) (by omega) (by omega)
    · rw [if_neg (by omega : ¬ (a ≤ q ∧ q < i - 1))]
      by_cases e3 : q = i - 1
      · rw [if_pos e3]; exact h1 _ (by omega) (by omega)
      · rw [if_neg e3]; exact hs _ _ (by omega) (by omega) (by omega)
  · rw [if_neg (by omega : ¬ (a ≤ p ∧ p < i - 1)), if_neg (by omega : ¬ (a ≤ q ∧ q < i - 1)), if_neg (by omega : ¬ q = i - 1)]
    by_cases e3 : p = i - 1
    · rw [if_pos e3]; exact h2 _ (by omega) (by omega)
    · rw [if_neg e3]; exact hs _ _ (by omega) (by omega) (by omega)
/-- The last number was moved down to k. -/
structure ShD (a b m k : Nat) (d dk : Array Nat) : Prop where
  perm : PermIn a b d dk
  get : ∀ t, dk[t]! = if k < t ∧ t ≤ m then d[t - 1]! else if t = k then d[m]! else d[t]!
theorem ShD.start (a b m : Nat) (d : Array Nat) : ShD a b m m d d := ⟨permIn_refl _ _ _, fun t => by
  rw [if_neg (by omega)]
  split
  · rename_i h; rw [h]
  · rfl⟩
theorem ShD.step {a b m k : Nat} {d dk : Array Nat} (h : ShD a b m (k + 1) d dk) (ha : a ≤ k) (hk : k + 1 ≤ m) (hm : m < b) (hb : b ≤ d.size) : ShD a b m k d (swp dk (k + 1) k) := by
  have hs := h.perm.1
  refine ⟨permIn_trans _ _ _ _ _ h.perm (swp_permIn dk a b (k + 1) k (by omega) (by omega) ha (by omega) (by omega)), fun t => ?_⟩
  rw [swp_get dk (by omega) (by omega)]
  by_cases h1 : t = k
  · rw [if_pos h1, if_neg (by omega), if_pos h1, h.get, if_neg (by omega), if_pos rfl]
  · by_cases h2 : t = k + 1
    · rw [if_neg h1, if_pos h2, if_pos (by omega), h.get, if_neg (by omega), if_neg (by omega), h2]; rfl
    · rw [if_neg h1, if_neg h2, h.get]
      by_cases h3 : k + 1 < t ∧ t ≤ m
      · rw [if_pos h3, if_pos (by omega)]
      · rw [if_neg h3, if_neg h2, if_neg (by omega), if_neg h1]
theorem ShD.srt {a m i : Nat} {d dk : Array Nat} (hk : ShD a (m + 1) m i d dk) (hai : a ≤ i) (him : i ≤ m) (hs : Srt lt a m d) (h1 : ∀ k, a ≤ k → k < i → rl lt d[k]! d[m]! = true) (h2 : ∀ k, i ≤ k → k < m → rl lt d[m]! d[k]! = true) : Srt lt a (m + 1) dk := by
  intro p q hp hpq hq
  rw [hk.get, hk.get]
  by_cases e1 : p < i
  · rw [if_neg (by omega : ¬ (i < p ∧ p ≤ m)), if_neg (by omega : ¬ p = i)]
    by_cases e2 : i < q
    · rw [if_pos (by omega : i < q ∧ q ≤ m)]; exact hs _ _ (by omega) (by omega) (by omega)
    · rw [if_neg (by omega : ¬ (i < q ∧ q ≤ m))]
      by_cases e3 : q = i
      · rw [if_pos e3]; exact h1 _ hp e1
      · rw [if_neg e3]; exact hs _ _ (by omega) (by omega) (by omega)
  · rw [if_pos (by omega : i < q ∧ q ≤ m)]
    by_cases e3 : p = i
    · rw [if_neg (by omega : ¬ (i < p ∧ p ≤ m)), if_pos e3]; exact h2 _ (by omega) (by omega)
    · rw [if_pos (by omega : i < p ∧ p ≤ m)]; exact hs _ _ (by omega) (by omega) (by omega)

/-! Rotations. -/
/-- i pairs of the ranges at x and y were exchanged. -/
structure Exg (a b x y i : Nat) (d dk : Array Nat) : Prop where
  perm : PermIn a b d dk
  get : ∀ t, dk[t]! = if x ≤ t ∧ t < x + i then d[y + (t - x)]! else if y ≤ t ∧ t < y + i then d[x + (t - y)]! else d[t]!
theorem Exg.start (a b x y : Nat) (d : Array Nat) : Exg a b x y 0 d d := ⟨permIn_refl _ _ _, fun t => by rw [if_neg (by omega), if_neg (by omega)]⟩
theorem Exg.step {a b x y i n : Nat} {d dk : Array Nat} (h : Exg a b x y i d dk) (hi : i < n) (hx : a ≤ x) (hxy : x + n ≤ y) (hy : y + n ≤ b) (hb : b ≤ d.size) : Exg a b x y (i + 1) d (swp dk (x + i) (y + i)) := by
  have hs := h.perm.1
  refine ⟨permIn_trans _ _ _ _ _ h.perm (swp_permIn dk a b (x + i) (y + i) (by omega) (by omega) (by omega) (by omega) (by omega)), fun t => ?_⟩
  rw [swp_get dk (by omega) (by omega)]
  by_cases h1 : t = y + i
  · rw [if_pos h1, if_neg (by omega), if_pos (by omega), h.get, if_neg (by omega), if_neg (by omega)]
    congr 1; omega
  · by_cases h2 : t = x + i
    · rw [if_neg h1, if_pos h2, if_pos (by omega), h.get, if_neg (by omega), if_neg (by omega)]
      congr 1; omega
    · rw [if_neg h1, if_neg h2, h.get]
      by_cases h3 : x ≤ t ∧ t < x + i
      · rw [if_pos h3, if_pos (by omega)]
      · rw [if_neg h3, if_neg (by omega : ¬ (x ≤ t ∧ t < x + (i + 1)))]
        by_cases h4 : y ≤ t ∧ t < y + i
        · rw [if_pos h4, if_pos (by omega)]
        · rw [if_neg h4, if_neg (by omega)]
/-- The two parts [l, m) and [m, h), exchanged. -/
def rotF (f : Nat → Nat) (l m h t : Nat) : Nat := if l ≤ t ∧ t < l + (h - m) then f (m + (t - l)) else if l + (h - m) ≤ t ∧ t < h then f (t - (h - m)) else f t
/-- What is left to be done of a rotation. -/
structure Rot (a b m i j : Nat) (d : Array Nat) (T : Nat → Nat) (dk : Array Nat) : Prop where
  perm : PermIn a b d dk
  lo : a ≤ m - i ∧ i ≤ m
  hi : m + j ≤ b
  pos : 0 < i ∧ 0 < j
  rest : ∀ t, rotF (dk[·]!) (m - i) m (m + j) t = T t
theorem Rot.left {a b m i j : Nat} {d : Array Nat} {T : Nat → Nat} {dk dn : Array Nat} (h : Rot a b m i j d T dk) (hij : j < i) (e : Exg a b (m - i) m j dk dn) : Rot a b m (i - j) j d T dn := by
  obtain ⟨h1, ⟨h2, h3⟩, h4, ⟨h5, h6⟩, h7⟩ := h
  refine ⟨permIn_trans _ _ _ _ _ h1 e.perm, ⟨by omega, by omega⟩, h4, ⟨by omega, h6⟩, fun t => ?_⟩
  rw [← h7 t]
  unfold rotF
  simp only [e.get]
  by_cases c1 : m - i ≤ t ∧ t < m - i + (m + j - m)
  · rw [if_pos c1, if_neg (by omega), if_neg (by omega), if_pos (by omega)]
  · rw [if_neg c1]
    by_cases c2 : m - i + (m + j - m) ≤ t ∧ t < m + j
    · rw [if_pos c2]
      by_cases c3 : t < m - (i - j) + (m + j - m)
      · rw [if_pos (by omega), if_neg (by omega), if_pos (by omega)]
        congr 1; omega
      · rw [if_neg (by omega), if_pos (by omega), if_neg (by omega), if_neg (by omega)]
    · rw [if_neg c2, if_neg (by omega), if_neg (by omega), if_neg (by omega), if_neg (by omega)]
theorem Rot.right {a b m i j : Nat} {d : Array Nat} {T : Nat → Nat} {dk dn : Array Nat} (h : Rot a b m i j d T dk) (hij : i < j) (e : Exg a b (m - i) (m + j - i) i dk dn) : Rot a b m i (j - i) d T dn := by
  obtain ⟨h1, ⟨h2, h3⟩, h4, ⟨h5, h6⟩, h7⟩ := h
  refine ⟨permIn_trans _ _ _ _ _ h1 e.perm, ⟨by omega, by omega⟩, by omega, ⟨by omega, by omega⟩, fun t => ?_⟩
  rw [← h7 t]
  unfold rotF
  simp only [e.get]
  by_cases c1 : m - i ≤ t ∧ t < m - i + (m + j - m)
  · rw [if_pos c1]
    by_cases c3 : t < m - i + (m + (j - i) - m)
    · rw [if_pos (by omega), if_neg (by omega)]
      by_cases c4 : m + j - i ≤ m + (t - (m - i)) ∧ m + (t - (m - i)) < m + j - i + i
      · omega
      · rw [if_neg c4]
    · rw [if_neg (by omega)]
      by_cases c4 : t < m + (j - i)
      · rw [if_pos (by omega), if_pos (by omega)]
        congr 1; omega
      · rw [if_neg (by omega), if_neg (by omega)]
        omega
  · rw [if_neg c1]
    by_cases c2 : m - i + (m + j - m) ≤ t ∧ t < m + j
    · rw [if_pos c2, if_neg (by omega), if_neg (by omega), if_neg (by omega), if_pos (by omega)]
      congr 1; omega
    · rw [if_neg c2, if_neg (by omega), if_neg (by omega), if_neg (by omega), if_neg (by omega)]
theorem Rot.last {a b m i : Nat} {d : Array Nat} {T : Nat → Nat} {dk dn : Array Nat} (h : Rot a b m i i d T dk) (e : Exg a b (m - i) m i dk dn) : PermIn a b d dn ∧ ∀ t, dn[t]! = T t := by
  obtain ⟨h1, ⟨h2, h3⟩, h4, ⟨h5, h6⟩, h7⟩ := h
  refine ⟨permIn_trans _ _ _ _ _ h1 e.perm, fun t => ?_⟩
  rw [← h7 t, e.get]
  unfold rotF
  by_cases c1 : m - i ≤ t ∧ t < m - i + i
  · rw [if_pos c1, if_pos (by omega)]
  · rw [if_neg c1]
    by_cases c2 : m ≤ t ∧ t < m + i
    · rw [if_pos c2, if_neg (by omega), if_pos (by omega)]
      congr 1; omega
    · rw [if_neg c2, if_neg (by omega), if_neg (by omega)]
end Go.Proofs.Ytecppcakgfohbab
