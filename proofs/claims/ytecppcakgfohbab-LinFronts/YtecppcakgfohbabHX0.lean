/- Sorting that keeps the order of like ones: the plain half: block by block. -/
import Derived.Test.YtecppcakgfohbabHR
namespace Go.Proofs.Ytecppcakgfohbab
open Go.Sort
variable {lt : Nat → Nat → Bool}

theorem crs_perm {c n a b : Nat} {d d' : Array Nat} (h : Crs 0 c n d) (hp : PermIn a b d d') (hb : b ≤ d.size) (hc : c ≤ a ∨ b ≤ c) (hbn : b ≤ n) : Crs 0 c n d' := by
  have k : ∀ j, c ≤ j → j < n → ∀ i, i < c → d'[i]! < d[j]! := fun j h1 h2 => by
    intro i hi
    by_cases q : a ≤ i ∧ i < b
    · exact permIn_all d d' a b (fun x => x < d[j]!) hb hp (fun t h3 h4 => h t j (Nat.zero_le _) (by omega) h1 h2) i q.1 q.2
    · rw [hp.2.1 i (by omega)]; exact h i j (Nat.zero_le _) hi h1 h2
  intro i j _ hi h1 h2
  by_cases q : a ≤ j ∧ j < b
  · exact permIn_all d d' a b (fun x => d'[i]! < x) hb hp (fun t h3 h4 => k t (by omega) (by omega) i hi) j q.1 q.2
  · rw [hp.2.1 j (by omega)]; exact k j h1 h2 i hi

/-- All blocks of this size are sorted, and each block's numbers are below the next one's. -/
structure Blk (lt : Nat → Nat → Bool) (s n : Nat) (d : Array Nat) : Prop where
  srt : ∀ r, Srt lt (r * s) (min (r * s + s) n) d
  crs : ∀ r, Crs 0 (r * s) n d
/-- The first q blocks are sorted, and the rest is as it was. -/
structure Ph1 (lt : Nat → Nat → Bool) (n q a : Nat) (d0 d : Array Nat) : Prop where
  qa : a = q * 20
  an : a ≤ n
  perm : PermIn 0 n d0 d
  srt : ∀ r, r < q → Srt lt (r * 20) (r * 20 + 20) d
  rest : ∀ t, a ≤ t → d[t]! = d0[t]!
  crs : ∀ r, r ≤ q → Crs 0 (r * 20) n d
theorem Ph1.start (n : Nat) (d : Array Nat) : Ph1 lt n 0 0 d d := ⟨rfl, Nat.zero_le _, permIn_refl _ _ _, fun r h => by omega, fun _ _ => rfl, fun r h i j h1 h2 h3 h4 => by omega⟩
theorem Ph1.asc {n q a : Nat} {d0 d : Array Nat} (h : Ph1 lt n q a d0 d) (asc : ∀ i j, i < j → j < n → d0[i]! < d0[j]!) : ∀ i j, a ≤ i → i < j → j < n → d[i]! < d[j]! := fun i j h1 h2 h3 => by
  rw [h.rest i h1, h.rest j (by omega)]; exact asc i j h2 h3
theorem Ph1.cut {n q a c : Nat} {d0 d : Array Nat} (h : Ph1 lt n q a d0 d) (asc : ∀ i j, i < j → j < n → d0[i]! < d0[j]!) (hc : a ≤ c) : Crs 0 c n d := fun i j h1 h2 h3 h4 => by
  by_cases q1 : i < a
  · exact h.crs q (Nat.le_refl _) i j h1 (by rw [← h.qa]; exact q1) (by rw [← h.qa]; omega) h4
  · exact h.asc asc i j (by omega) (by omega) h4
theorem Ph1.step {n q a : Nat} {d0 d d' : Array Nat} (h : Ph1 lt n q a d0 d) (hn : n ≤ d0.size) (asc : ∀ i j, i < j → j < n → d0[i]! < d0[j]!) (hb : a + 20 ≤ n) (hp : PermIn a (a + 20) d d') (hs : Srt lt a (a + 20) d') : Ph1 lt n (q + 1) (a + 20) d0 d' := by
  have z := h.perm.1
  have qa := h.qa
  refine ⟨by omega, hb, permIn_trans _ _ _ _ _ h.perm (permIn_mono _ _ a (a + 20) 0 n (Nat.zero_le _) hb (by omega) hp), fun r hr => ?_, fun t ht => ?_, fun r hr => ?_⟩
  · by_cases e : r = q
    · subst e; rw [← qa]; exact hs
    · exact (h.srt r (by omega)).of_eq fun i h1 h2 => hp.2.1 i (by omega)
  · rw [hp.2.1 t (by omega)]; exact h.rest t (by omega)
  · by_cases e : r = q + 1
    · subst e
      exact crs_perm (h.cut asc (by omega)) hp (by omega) (by omega) hb
    · exact crs_perm (h.crs r (by omega)) hp (by omega) (by omega) hb
theorem Ph1.last {n q a : Nat} {d0 d d' : Array Nat} (h : Ph1 lt n q a d0 d) (hn : n ≤ d0.size) (hb : n < a + 20) (hp : PermIn a n d d') (hs : Srt lt a n d') : PermIn 0 n d0 d' ∧ Blk lt 20 n d' := by
  have z := h.perm.1
  have qa := h.qa
  have an := h.an
  refine ⟨permIn_trans _ _ _ _ _ h.perm (permIn_mono _ _ a n 0 n (Nat.zero_le _) (Nat.le_refl _) (by omega) hp), fun r => ?_, fun r => ?_⟩
  · by_cases e : r < q
    · exact ((h.srt r e).sub (Nat.le_refl _) (Nat.min_le_left _ _)).of_eq fun i h1 h2 => hp.2.1 i (by omega)
    · by_cases e2 : r = q
      · subst e2; rw [← qa]; exact hs.sub (Nat.le_refl _) (Nat.min_le_right _ _)
      · exact Srt.tiny (by omega)
  · by_cases e : r ≤ q
    · exact crs_perm (h.crs r e) hp (by omega) (by omega) (Nat.le_refl _)
    · exact fun i j h1 h2 h3 h4 => by omega
/-- Pairs of blocks, merged up to a. -/
structure Ph2 (lt : Nat → Nat → Bool) (s n q a : Nat) (d0 d : Array Nat) : Prop where
  qa : a = q * (2 * s)
  perm : PermIn 0 n d0 d
  done : ∀ r, r < q → Srt lt (r * (2 * s)) (r * (2 * s) + 2 * s) d
  srt : ∀ r, Srt lt (a + r * s) (min (a + r * s + s) n) d
  crs : ∀ r, Crs 0 (a + r * s) n d
  cro : ∀ r, r ≤ q → Crs 0 (r * (2 * s)) n d
theorem Ph2.start {s n : Nat} {d0 d : Array Nat} (hp : PermIn 0 n d0 d) (h : Blk lt s n d) : Ph2 lt s n 0 0 d0 d :=
  ⟨by simp, hp, fun r h => by omega, fun r => by rw [Nat.zero_add]; exact h.srt r, fun r => by rw [Nat.zero_add]; exact h.crs r, fun r hr i j h1 h2 h3 h4 => by
    have e : r = 0 := by omega
    rw [e, Nat.zero_mul] at h2
    omega⟩
theorem Ph2.parts {s n q a : Nat} {d0 d : Array Nat} (h : Ph2 lt s n q a d0 d) {b : Nat} (hb : b ≤ n) (h1 : a + s < b) (h2 : b ≤ a + 2 * s) : Srt lt a (a + s) d ∧ Srt lt (a + s) b d ∧ Crs a (a + s) b d := by
  have e0 := h.srt 0
  have e1 := h.srt 1
  have e2 := h.crs 1
  rw [Nat.zero_mul, Nat.add_zero] at e0
  rw [Nat.one_mul] at e1 e2
  exact ⟨e0.sub (Nat.le_refl _) (by omega), e1.sub (Nat.le_refl _) (by omega), fun i j h3 h4 h5 h6 => e2 i j (Nat.zero_le _) h4 h5 (by omega)⟩
theorem mul_far {r q s : Nat} (h : r < q) : r * s + s ≤ q * s := by
  have := Nat.mul_le_mul_right s (show r + 1 ≤ q from h)
  rw [Nat.succ_mul] at this
  exact this
theorem Ph2.step {s n q a : Nat} {d0 d d' : Array Nat} (h : Ph2 lt s n q a d0 d) (hn : n ≤ d0.size) (hb : a + 2 * s ≤ n) (g : Mgd lt a (a + 2 * s) d d') : Ph2 lt s n (q + 1) (a + 2 * s) d0 d' := by
  have z := h.perm.1
  have qa := h.qa
  have e : ∀ r, a + 2 * s + r * s = a + (r + 2) * s := fun r => by rw [Nat.add_mul]; omega
  refine ⟨by rw [Nat.add_mul q 1, ← qa, Nat.one_mul], permIn_trans _ _ _ _ _ h.perm (permIn_mono _ _ a (a + 2 * s) 0 n (Nat.zero_le _) hb (by omega) g.perm), fun r hr => ?_, fun r => ?_, fun r => ?_, fun r hr => ?_⟩
  · by_cases e : r = q
    · subst e; rw [← qa]; exact g.srt
    · have := mul_far (r := r) (q := q) (s := 2 * s) (by omega)
      exact g.keep (.inr (by omega)) (h.done r (by omega))
  · have := h.srt (r + 2)
    rw [← e] at this
    exact g.keep (.inl (by omega)) this
  · have := h.crs (r + 2)
    rw [← e] at this
    exact crs_perm this g.perm (by omega) (by omega) hb
  · by_cases e3 : r = q + 1
    · subst e3
      have := h.crs 2
      rw [Nat.add_mul q 1, ← qa, Nat.one_mul]
      exact crs_perm this g.perm (by omega) (by omega) hb
    · refine crs_perm (h.cro r (by omega)) g.perm (by omega) (.inl ?_) hb
      by_cases e4 : r = q
      · subst e4; omega
      · have := mul_far (r := r) (q := q) (s := 2 * s) (by omega)
        omega
theorem Ph2.last {s n q a : Nat} {d0 d d' : Array Nat} (h : Ph2 lt s n q a d0 d) (hn : n ≤ d0.size) (hb : n < a + 2 * s) (g : Mgd lt a n d d') : PermIn 0 n d0 d' ∧ Blk lt (2 * s) n d' := by
  have z := h.perm.1
  have qa := h.qa
  by_cases han : a ≤ n
  · refine ⟨permIn_trans _ _ _ _ _ h.perm (permIn_mono _ _ a n 0 n (Nat.zero_le _) (Nat.le_refl _) (by omega) g.perm), fun r => ?_, fun r => ?_⟩
    · by_cases e : r < q
      · have := mul_far (r := r) (q := q) (s := 2 * s) e
        exact g.keep (.inr (by omega)) ((h.done r e).sub (Nat.le_refl _) (Nat.min_le_left _ _))
      · by_cases e2 : r = q
        · subst e2; rw [← qa]; exact g.srt.sub (Nat.le_refl _) (Nat.min_le_right _ _)
        · have := mul_far (r := q) (q := r) (s := 2 * s) (by omega)
          exact Srt.tiny (by omega)
    · by_cases e : r ≤ q
      · refine crs_perm (h.cro r e) g.perm (by omega) (.inl ?_) (Nat.le_refl _)
        by_cases e4 : r = q
        · subst e4; omega
        · have := mul_far (r := r) (q := q) (s := 2 * s) (by omega)
          omega
      · have := mul_far (r := q) (q := r) (s := 2 * s) (by omega)
        exact fun i j h1 h2 h3 h4 => by omega
  · have e : ∀ t, d'[t]! = d[t]! := fun t => g.perm.2.1 t (by omega)
    refine ⟨⟨g.perm.1.trans z, fun i hi => by rw [e, h.perm.2.1 i hi], ?_⟩, fun r => ?_, fun r => ?_⟩
    · rw [extract_toList _ _ _ (by rw [g.perm.1]; omega)]
      have := h.perm.2.2
      rw [extract_toList _ _ _ (by omega)] at this
      simp only [e]
      exact this
    · by_cases e5 : r < q
      · exact ((h.done r e5).sub (Nat.le_refl _) (Nat.min_le_left _ _)).of_eq fun i _ _ => e i
      · have e6 : q * (2 * s) ≤ r * (2 * s) := Nat.mul_le_mul_right _ (by omega)
        exact Srt.tiny (by omega)
    · by_cases e5 : r ≤ q
      · have := h.cro r e5
        exact fun i j h1 h2 h3 h4 => by rw [e, e]; exact this i j h1 h2 h3 h4
      · have := mul_far (r := q) (q := r) (s := 2 * s) (by omega)
        exact fun i j h1 h2 h3 h4 => by omega
theorem Ph2.flat {s n q a : Nat} {d0 d : Array Nat} (h : Ph2 lt s n q a d0 d) (hb : n ≤ a + s) : Mgd lt a n d d := by
  have e0 := h.srt 0
  rw [Nat.zero_mul, Nat.add_zero] at e0
  exact (e0.sub (Nat.le_refl _) (by omega)).mgd
theorem Blk.all {s n : Nat} {d : Array Nat} (h : Blk lt s n d) (hn : n ≤ s) : Srt lt 0 n d := by
  have := h.srt 0
  rw [Nat.zero_mul, Nat.zero_add] at this
  exact this.sub (Nat.le_refl _) (by omega)
end Go.Proofs.Ytecppcakgfohbab
