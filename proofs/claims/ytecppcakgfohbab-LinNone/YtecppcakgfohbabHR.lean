/- Sorting that keeps the order of like ones: the plain half: the merge, and all blocks. -/
import Derived.Test.YtecppcakgfohbabHQ
namespace Go.Proofs.Ytecppcakgfohbab
open Go.Sort
variable {lt : Nat → Nat → Bool}

/-- What a merge of [a, m) and [m, b) comes to. -/
structure Mgd (lt : Nat → Nat → Bool) (a b : Nat) (d d' : Array Nat) : Prop where
  perm : PermIn a b d d'
  srt : Srt lt a b d'
/-- The search for where to part. -/
structure Bsc (lt : Nat → Nat → Bool) (n s0 r0 s r : Nat) (d : Array Nat) : Prop where
  le : s0 ≤ s ∧ s ≤ r ∧ r ≤ r0
  lo : ∀ c, s0 ≤ c → c < s → rl lt d[c]! d[n - 1 - c]! = true
  hi : ∀ c, r ≤ c → c < r0 → rl lt d[n - 1 - c]! d[c]! = true
theorem Bsc.start {n s0 r0 : Nat} {d : Array Nat} (h : s0 ≤ r0) : Bsc lt n s0 r0 s0 r0 d := ⟨⟨Nat.le_refl _, h, Nat.le_refl _⟩, fun c h1 h2 => by omega, fun c h1 h2 => by omega⟩
/-- What is known of the parts. -/
structure Prt (a m b n s0 r0 : Nat) : Prop where
  am : a < m
  mb : m < b
  n_ : n = (a + b) / 2 + m
  s_ : (a ≤ s0 ∧ n ≤ s0 + b) ∧ (s0 = a ∨ s0 + b = n)
  r_ : (r0 ≤ (a + b) / 2 ∧ r0 ≤ m) ∧ (r0 = (a + b) / 2 ∨ r0 = m)
theorem Prt.le {a m b n s0 r0 : Nat} (h : Prt a m b n s0 r0) : s0 ≤ r0 := by
  obtain ⟨h1, h2, h3, h4, h5⟩ := h
  omega
theorem Bsc.go {a m b n s0 r0 s r c : Nat} {d : Array Nat} (hS : SWO lt) (P : Prt a m b n s0 r0) (h1 : Srt lt a m d) (h2 : Srt lt m b d) (h3 : Crs a m b d) (h : Bsc lt n s0 r0 s r d) (hc : s ≤ c ∧ c < r) (hl : lt d[n - 1 - c]! d[c]! = false) : Bsc lt n s0 r0 (c + 1) r d := by
  obtain ⟨p1, p2, p3, p4, p5⟩ := P
  obtain ⟨q1, q2, q3⟩ := h
  have hx : d[c]! < d[n - 1 - c]! := h3 _ _ (by omega) (by omega) (by omega) (by omega)
  have e : rl lt d[c]! d[n - 1 - c]! = true := by rw [rl_up hS hx, hl]; rfl
  refine ⟨⟨by omega, by omega, by omega⟩, fun k h4 h5 => ?_, q3⟩
  by_cases hk : k = c
  · subst hk; exact e
  · exact rl_trans hS (h1 k c (by omega) (by omega) (by omega)) (rl_trans hS e (h2 _ _ (by omega) (by omega) (by omega)))
theorem Bsc.back {a m b n s0 r0 s r c : Nat} {d : Array Nat} (hS : SWO lt) (P : Prt a m b n s0 r0) (h1 : Srt lt a m d) (h2 : Srt lt m b d) (h3 : Crs a m b d) (h : Bsc lt n s0 r0 s r d) (hc : s ≤ c ∧ c < r) (hl : lt d[n - 1 - c]! d[c]! = true) : Bsc lt n s0 r0 s c d := by
  obtain ⟨p1, p2, p3, p4, p5⟩ := P
  obtain ⟨q1, q2, q3⟩ := h
  have hx : d[c]! < d[n - 1 - c]! := h3 _ _ (by omega) (by omega) (by omega) (by omega)
  have e : rl lt d[n - 1 - c]! d[c]! = true := by rw [rl_dn hx]; exact hl
  refine ⟨⟨by omega, by omega, by omega⟩, q2, fun k h4 h5 => ?_⟩
  by_cases hk : k = c
  · subst hk; exact e
  · exact rl_trans hS (h2 _ _ (by omega) (by omega) (by omega)) (rl_trans hS e (h1 c k (by omega) (by omega) (by omega)))

/-- Behind the rotation: four parts. -/
structure Four (lt : Nat → Nat → Bool) (a m b s n : Nat) (d d1 : Array Nat) : Prop where
  perm : PermIn a b d d1
  se : a ≤ s ∧ s ≤ (a + b) / 2 ∧ (a + b) / 2 ≤ n - s ∧ n - s ≤ b ∧ s ≤ n ∧ (a + b) / 2 ≤ b
  s1 : Srt lt a s d1
  s2 : Srt lt s ((a + b) / 2) d1
  c1 : Crs a s ((a + b) / 2) d1
  s3 : Srt lt ((a + b) / 2) (n - s) d1
  s4 : Srt lt (n - s) b d1
  c2 : Crs ((a + b) / 2) (n - s) b d1
  ab : ∀ i j, a ≤ i → i < (a + b) / 2 → (a + b) / 2 ≤ j → j < b → rl lt d1[i]! d1[j]! = true
theorem four_of {a m b n s0 r0 s : Nat} {d d1 : Array Nat} (hS : SWO lt) (P : Prt a m b n s0 r0) (h1 : Srt lt a m d) (h2 : Srt lt m b d) (h3 : Crs a m b d) (h : Bsc lt n s0 r0 s s d)
    (hp : PermIn a b d d1) (hd : ∀ t, d1[t]! = rotF (d[·]!) s m (n - s) t) : Four lt a m b s n d d1 := by
  obtain ⟨p1, p2, p3, p4, p5⟩ := P
  obtain ⟨q1, q2, q3⟩ := h
  have g0 : ∀ t, t < s → d1[t]! = d[t]! := fun t ht => by rw [hd]; unfold rotF; rw [if_neg (by omega), if_neg (by omega)]
  have g1 : ∀ t, s ≤ t → t < (a + b) / 2 → d1[t]! = d[m + (t - s)]! := fun t h4 h5 => by rw [hd]; unfold rotF; rw [if_pos (by omega)]
  have g2 : ∀ t, (a + b) / 2 ≤ t → t < n - s → d1[t]! = d[t - (n - s - m)]! := fun t h4 h5 => by rw [hd]; unfold rotF; rw [if_neg (by omega), if_pos (by omega)]
  have g3 : ∀ t, n - s ≤ t → d1[t]! = d[t]! := fun t h4 => by rw [hd]; unfold rotF; rw [if_neg (by omega), if_neg (by omega)]
  have le1 : ∀ i j, a ≤ i → i ≤ j → j < m → ∀ x, rl lt d[j]! x = true → rl lt d[i]! x = true := fun i j h4 h5 h6 x hx => by
    by_cases e : i = j
    · subst e; exact hx
    · exact rl_trans hS (h1 i j h4 (by omega) h6) hx
  have le2 : ∀ i j, m ≤ i → i ≤ j → j < b → ∀ x, rl lt d[j]! x = true → rl lt d[i]! x = true := fun i j h4 h5 h6 x hx => by
    by_cases e : i = j
    · subst e; exact hx
    · exact rl_trans hS (h2 i j h4 (by omega) h6) hx
  have ge1 : ∀ i j, a ≤ i → i ≤ j → j < m → ∀ x, rl lt x d[i]! = true → rl lt x d[j]! = true := fun i j h4 h5 h6 x hx => by
    by_cases e : i = j
    · subst e; exact hx
    · exact rl_trans hS hx (h1 i j h4 (by omega) h6)
  have ge2 : ∀ i j, m ≤ i → i ≤ j → j < b → ∀ x, rl lt x d[i]! = true → rl lt x d[j]! = true := fun i j h4 h5 h6 x hx => by
    by_cases e : i = j
    · subst e; exact hx
    · exact rl_trans hS hx (h2 i j h4 (by omega) h6)
  have eb : (a + b) / 2 = n - m := by omega
  refine ⟨hp, by omega, ?_, ?_, ?_, ?_, ?_, ?_, ?_⟩
  · intro i j h4 h5 h6
    rw [g0 i (by omega), g0 j (by omega)]
    exact h1 i j h4 h5 (by omega)
  · intro i j h4 h5 h6
    rw [g1 i h4 (by omega), g1 j (by omega) h6]
    exact h2 _ _ (by omega) (by omega) (by omega)
  · intro i j h4 h5 h6 h7
    rw [g0 i h5, g1 j h6 h7]
    exact h3 _ _ h4 (by omega) (by omega) (by omega)
  · intro i j h4 h5 h6
    rw [g2 i h4 (by omega), g2 j (by omega) h6]
    exact h1 _ _ (by omega) (by omega) (by omega)
  · intro i j h4 h5 h6
    rw [g3 i h4, g3 j (by omega)]
    exact h2 _ _ (by omega) h5 h6
  · intro i j h4 h5 h6 h7
    rw [g2 i h4 h5, g3 j h6]
    exact h3 _ _ (by omega) (by omega) (by omega) h7
  · intro i j h4 h5 h6 h7
    by_cases c1 : i < s
    · rw [g0 i c1]
      by_cases c2 : j < n - s
      · rw [g2 j h6 c2]
        exact h1 _ _ h4 (by omega) (by omega)
      · rw [g3 j (by omega)]
        have hs : s0 < s := by omega
        have := q2 (s - 1) (by omega) (by omega)
        rw [show n - 1 - (s - 1) = n - s by omega] at this
        exact le1 _ (s - 1) h4 (by omega) (by omega) _ (ge2 (n - s) j (by omega) (by omega) h7 _ this)
    · rw [g1 i (by omega) h5]
      by_cases c2 : j < n - s
      · rw [g2 j h6 c2]
        have hs : s < r0 := by omega
        have := q3 s (Nat.le_refl _) hs
        exact le2 _ (n - 1 - s) (by omega) (by omega) (by omega) _ (ge1 s _ (by omega) (by omega) (by omega) _ this)
      · rw [g3 j (by omega)]
        exact h2 _ _ (by omega) (by omega) h7
/-- Both halves, merged. -/
theorem Four.all {a m b s n : Nat} {d d1 d2 d3 : Array Nat} (hb : b ≤ d.size) (h : Four lt a m b s n d d1) (h1 : Mgd lt a ((a + b) / 2) d1 d2) (h2 : Mgd lt ((a + b) / 2) b d2 d3) : Mgd lt a b d d3 := by
  have z1 := h.perm.1
  have z2 := h1.perm.1
  obtain ⟨e1, e2, e3, e4, e5, e6⟩ := h.se
  have P1 := permIn_mono _ _ a ((a + b) / 2) a b (Nat.le_refl _) e6 (by omega) h1.perm
  have P2 := permIn_mono _ _ ((a + b) / 2) b a b (by omega) (Nat.le_refl _) (by omega) h2.perm
  refine ⟨permIn_trans _ _ _ _ _ h.perm (permIn_trans _ _ _ _ _ P1 P2), fun i j h3 h4 h5 => ?_⟩
  by_cases c1 : j < (a + b) / 2
  · rw [h2.perm.2.1 i (.inl (by omega)), h2.perm.2.1 j (.inl c1)]
    exact h1.srt i j h3 h4 c1
  · by_cases c2 : (a + b) / 2 ≤ i
    · exact h2.srt i j c2 h4 h5
    · rw [h2.perm.2.1 i (.inl (by omega))]
      have k1 : ∀ y, (a + b) / 2 ≤ y → y < b → ∀ x, a ≤ x → x < (a + b) / 2 → rl lt d2[x]! d1[y]! = true := fun y hy1 hy2 =>
        permIn_all d1 d2 a ((a + b) / 2) (fun v => rl lt v d1[y]! = true) (by omega) h1.perm (fun x hx1 hx2 => h.ab x y hx1 hx2 hy1 hy2)
      have k2 : ∀ y, (a + b) / 2 ≤ y → y < b → rl lt d2[i]! d2[y]! = true := fun y hy1 hy2 => by
        rw [h1.perm.2.1 y (.inr hy1)]
        exact k1 y hy1 hy2 i h3 (by omega)
      exact permIn_all d2 d3 ((a + b) / 2) b (fun v => rl lt d2[i]! v = true) (by omega) h2.perm k2 j (by omega) h5
theorem Srt.mgd {a b : Nat} {d : Array Nat} (h : Srt lt a b d) : Mgd lt a b d d := ⟨permIn_refl _ _ _, h⟩
/-- A part that needs no merge. -/
theorem Srt.flat {a s m : Nat} {d : Array Nat} (h1 : Srt lt a s d) (h2 : Srt lt s m d) (h : s ≤ a ∨ m ≤ s) : Srt lt a m d := fun i j h3 h4 h5 => by
  rcases h with h | h
  · exact h2 i j (by omega) h4 h5
  · exact h1 i j h3 h4 (by omega)
theorem Mgd.keep {a b x y : Nat} {d d' : Array Nat} (h : Mgd lt a b d d') (hx : b ≤ x ∨ y ≤ a) (hs : Srt lt x y d) : Srt lt x y d' := hs.of_eq fun i h1 h2 => h.perm.2.1 i (by omega)
theorem Mgd.crs {a b x y z : Nat} {d d' : Array Nat} (h : Mgd lt a b d d') (hx : b ≤ x ∨ z ≤ a) (hs : Crs x y z d) : Crs x y z d' := fun i j h1 h2 h3 h4 => by
  rw [h.perm.2.1 i (by omega), h.perm.2.1 j (by omega)]
  exact hs i j h1 h2 h3 h4
end Go.Proofs.Ytecppcakgfohbab
