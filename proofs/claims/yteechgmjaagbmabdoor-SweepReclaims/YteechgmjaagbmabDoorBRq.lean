/- A Reclaim alone: what it comes to; no program in sight. -/
import Derived.Test.YteechgmjaagbmabDoorBRp
import Derived.Test.YteechgmjaagbmabDoorBAw0
namespace Go.Proofs.YteechgmjaagbmabDoor

theorem reRun_succ (K : Cf) (X : List Nat) (r : Re) (n : Nat) : reRun K X r (n + 1) = reX K (reRun K X r n).1 (reRun K X r n).2 := rfl
theorem pushX_hd (K : Cf) (X : List Nat) (q : QS) (t : Nat) : (pushX K X q).1.getD (K.hd t) 0 = X.getD (K.hd t) 0 := by
  have h4 := K.hd_4 t
  unfold pushX
  split
  · rfl
  · split
    · show (List.set _ _ _).getD _ _ = _
      rw [getD_set, if_neg (fun c => K.hd_lk t q.sl c.1.symm)]
    · split
      · split
        · show (List.set _ _ _).getD _ _ = _
          rw [getD_set, if_neg (fun c => by have := c.1; omega)]
        · rfl
      · rfl
theorem frX_hd (K : Cf) (X : List Nat) (f : Fr) {t : Nat} (h : f.q.sl ≠ t) : (frX K X f).1.getD (K.hd t) 0 = X.getD (K.hd t) 0 := by
  unfold frX
  split
  · rfl
  · split
    · show (List.set _ _ _).getD _ _ = _
      rw [getD_set, if_neg (fun c => h (K.hd_inj c.1))]
    · split
      · exact pushX_hd K X f.q t
      · rfl
/-- A slot that is freed within a Reclaim. -/
theorem rq_free {K : Cf} (hK : K.Ok) {X0 : List Nat} {r0 : Re} {tag W j b g : Nat} {F : List Nat} (hj : j ∉ F) (hjS : j < K.S) (ht : tag + 1 < 281474976710656) : ∀ (L t : Nat) (X : List Nat) (f : Fr), f.left ≤ L → reRun K X0 r0 t = (X, ⟨b, g, 1, j, f⟩) → FlAt K tag W j F X f →
    ∃ n X' f', n ≤ L ∧ 1 ≤ n ∧ reRun K X0 r0 (t + n) = (X', reNext K ⟨b + f'.back.toNat, g + f'.gone.toNat, 1, j, f'⟩) ∧ FlEnd K tag W j F X' f' ∧ (∀ u, u ≠ j → X'.getD (K.hd u) 0 = X.getD (K.hd u) 0) ∧ ∀ k, k < n → (reRun K X0 r0 (t + k)).2.pc ≤ 1 ∧ (k + 1 < n → (reRun K X0 r0 (t + k + 1)).2.pc ≠ 2)
  | 0, t, X, f, hL, _, hF => by
    obtain ⟨h1, _⟩ := hF.step hK hj hjS ht
    obtain ⟨_, _, _, _, hq, _⟩ := hF
    have := hq.pc
    unfold Fr.left at hL
    split at hL
    · omega
    · split at hL <;> omega
  | L + 1, t, X, f, hL, hR, hF => by
    obtain ⟨h1, h2⟩ := hF.step hK hj hjS ht
    have hsl : f.q.sl = j := hF.1
    have hs1 : reRun K X0 r0 (t + 1) = reX K X ⟨b, g, 1, j, f⟩ := by rw [reRun_succ, hR]
    have hp0 : (reRun K X0 r0 (t + 0)).2.pc ≤ 1 := by rw [Nat.add_zero, hR]; show 1 ≤ 1; omega
    have hd1 : ∀ u, u ≠ j → (frX K X f).1.getD (K.hd u) 0 = X.getD (K.hd u) 0 := fun u hu => frX_hd K X f (by rw [hsl]; exact fun c => hu c.symm)
    rcases h2 with ⟨h3, h4⟩ | ⟨h3, h4, h5⟩
    · refine ⟨1, (frX K X f).1, (frX K X f).2, by omega, by omega, ?_, h4, hd1, ?_⟩
      · rw [hs1]
        unfold reX
        rw [if_neg (by show ¬ 1 = 0; omega), if_pos (show (1 : Nat) = 1 from rfl)]
        show ((frX K X f).1, if (frX K X f).2.pc = 3 then _ else _) = _
        rw [if_pos h3]
      · intro k hk
        obtain rfl : k = 0 := by omega
        exact ⟨hp0, fun c => by omega⟩
    · have hs2 : reRun K X0 r0 (t + 1) = ((frX K X f).1, ⟨b, g, 1, j, (frX K X f).2⟩) := by
        rw [hs1]
        unfold reX
        rw [if_neg (by show ¬ 1 = 0; omega), if_pos (show (1 : Nat) = 1 from rfl)]
        show ((frX K X f).1, if (frX K X f).2.pc = 3 then _ else _) = _
        rw [if_neg h3]
      obtain ⟨n, X', f', g1, g2, g3, g4, g5, g6⟩ := rq_free hK (X0 := X0) (r0 := r0) hj hjS ht L (t + 1) _ _ (by omega) hs2 h4
      refine ⟨n + 1, X', f', by omega, by omega, by rw [show t + (n + 1) = t + 1 + n by omega]; exact g3, g4, fun u hu => (g5 u hu).trans (hd1 u hu), ?_⟩
      intro k hk
      cases k with
      | zero =>
        refine ⟨hp0, fun _ => ?_⟩
        show (reRun K X0 r0 (t + 1)).2.pc ≠ 2
        rw [hs2]
        show 1 ≠ 2
        omega
      | succ k =>
        obtain ⟨a, c⟩ := g6 k (by omega)
        rw [show t + (k + 1) = t + 1 + k by omega]
        exact ⟨a, fun h => c (by omega)⟩

/-- What a header's word is behind a Reclaim. -/
def rcW (K : Cf) (W : Nat) : Nat := if limboW W = true then fdW W K.g else W
def bkB (K : Cf) (W : Nat) : Bool := limboW W && decide (kdW (fdW W K.g) ≠ 4)
def gnB (K : Cf) (W : Nat) : Bool := limboW W && decide (kdW (fdW W K.g) = 4)
def rbN (K : Cf) (X : List Nat) : Nat → Nat
  | 0 => 0
  | j + 1 => rbN K X j + (bkB K (X.getD (K.hd j) 0)).toNat
def rgN (K : Cf) (X : List Nat) : Nat → Nat
  | 0 => 0
  | j + 1 => rgN K X j + (gnB K (X.getD (K.hd j) 0)).toNat
def rfL (K : Cf) (X : List Nat) (F : List Nat) : Nat → List Nat
  | 0 => F
  | j + 1 => if bkB K (X.getD (K.hd j) 0) = true then j :: rfL K X F j else rfL K X F j
theorem rbN_le (K : Cf) (X : List Nat) : ∀ j, rbN K X j ≤ j ∧ rgN K X j ≤ j
  | 0 => ⟨Nat.le_refl _, Nat.le_refl _⟩
  | j + 1 => by
    have h := rbN_le K X j
    have h1 := Bool.toNat_le (bkB K (X.getD (K.hd j) 0))
    have h2 := Bool.toNat_le (gnB K (X.getD (K.hd j) 0))
    unfold rbN rgN
    omega
theorem rfL_mem {K : Cf} {X F : List Nat} : ∀ {j t : Nat}, t ∈ rfL K X F j → t ∈ F ∨ t < j
  | 0, t, h => .inl h
  | j + 1, t, h => by
    unfold rfL at h
    split at h
    · rcases List.mem_cons.1 h with rfl | h
      · exact .inr (by omega)
      · rcases rfL_mem h with h | h
        · exact .inl h
        · exact .inr (by omega)
    · rcases rfL_mem h with h | h
      · exact .inl h
      · exact .inr (by omega)
theorem kd_limbo (W : Nat) : kdW W = 3 ↔ limboW W = true := by
  unfold kdW limboW
  cases Hh.okW W <;> simp
/-- Where a Reclaim is behind the first j slots. -/
def RpAt (K : Cf) (X : List Nat) (F : List Nat) (j : Nat) : Prop :=
  ∃ t Y f, j ≤ t ∧ t ≤ 7 * j ∧ reRun K X re0 t = (Y, ⟨rbN K X j, rgN K X j, if K.S ≤ j then 2 else 0, j, f⟩) ∧ Top K Y (rbN K X j) (rfL K X F j) ∧
    (∀ s, s < K.S → Y.getD (K.hd s) 0 = if s < j then rcW K (X.getD (K.hd s) 0) else X.getD (K.hd s) 0) ∧
    ∀ k, k < t → (reRun K X re0 k).2.pc ≤ 1 ∧ ((reRun K X re0 (k + 1)).2.pc = 2 → K.S ≤ j ∧ k + 1 = t)
theorem rpAt_step {K : Cf} (hK : K.Ok) {X F : List Nat} (hF : ∀ s ∈ F, limboW (X.getD (K.hd s) 0) = false) {j : Nat} (hj : j < K.S) (h : RpAt K X F j) : RpAt K X F (j + 1) := by
  obtain ⟨t, Y, f, t1, t2, h1, h2, h3, h4⟩ := h
  rw [if_neg (by omega)] at h1
  have hS := hK.s64
  have hYW : Y.getD (K.hd j) 0 = X.getD (K.hd j) 0 := by rw [h3 j hj, if_neg (by omega)]
  obtain ⟨W, hW⟩ : ∃ W, X.getD (K.hd j) 0 = W := ⟨_, rfl⟩
  have hb := rbN_le K X j
  have hp0 : (reRun K X re0 t).2.pc ≤ 1 := by rw [h1]; show 0 ≤ 1; omega
  have hbN : rbN K X (j + 1) = rbN K X j + (bkB K W).toNat := by rw [← hW]; rfl
  have hgN : rgN K X (j + 1) = rgN K X j + (gnB K W).toNat := by rw [← hW]; rfl
  have hfL : rfL K X F (j + 1) = if bkB K W = true then j :: rfL K X F j else rfL K X F j := by rw [← hW]; rfl
  by_cases hl : limboW W = true
  · have hk3 : kdW W = 3 := (kd_limbo W).2 hl
    have hs1 : reRun K X re0 (t + 1) = (Y, ⟨rbN K X j, rgN K X j, 1, j, fr0 j⟩) := by
      rw [reRun_succ, h1]
      unfold reX
      rw [if_pos (show (0 : Nat) = 0 from rfl)]
      show (Y, if kdW (Y.getD (K.hd j) 0) = 3 then _ else _) = _
      rw [hYW, hW, if_pos hk3]
    have hjF : j ∉ rfL K X F j := fun c => by
      rcases rfL_mem c with c | c
      · have := hF j c
        rw [hW, hl] at this
        cases this
      · omega
    have hfl : FlAt K (rbN K X j) W j (rfL K X F j) Y (fr0 j) := ⟨rfl, rfl, rfl, h2, push0_inv K Y _ j, .inl ⟨rfl, rfl, by rw [hYW, hW]⟩⟩
    obtain ⟨n, Y', f', n1, n2, n3, n4, n5, n6⟩ := rq_free hK (X0 := X) (r0 := re0) hjF hj (by omega) 5 (t + 1) Y (fr0 j) (by unfold Fr.left fr0; simp) hs1 hfl
    have hend : (Top K Y' (rbN K X (j + 1)) (rfL K X F (j + 1))) ∧ Y'.getD (K.hd j) 0 = rcW K W ∧ f'.back = bkB K W ∧ f'.gone = gnB K W := by
      unfold rcW bkB gnB
      rw [hbN, hfL]
      unfold bkB
      rw [hl, if_pos rfl, Bool.true_and, Bool.true_and]
      rcases n4 with ⟨c, _⟩ | ⟨_, c2, c3, c4, c5, c6⟩ | ⟨_, c2, c3, c4, c5, c6⟩
      · rw [hl] at c; cases c
      · rw [decide_eq_false (by simpa using c2), decide_eq_true c2, if_neg (by simp)]
        exact ⟨c6, c5, c3, c4⟩
      · rw [decide_eq_true c2, decide_eq_false c2, if_pos rfl]
        exact ⟨c6, c5, c3, c4⟩
    obtain ⟨e1, e2, e3, e4⟩ := hend
    have hs2 : reRun K X re0 (t + 1 + n) = (Y', ⟨rbN K X (j + 1), rgN K X (j + 1), if K.S ≤ j + 1 then 2 else 0, j + 1, f'⟩) := by
      rw [n3, e3, e4, hbN, hgN]
      rfl
    refine ⟨t + 1 + n, Y', f', by omega, by omega, hs2, e1, ?_, ?_⟩
    · intro s hs
      by_cases hsj : s = j
      · subst hsj
        rw [e2, if_pos (by omega), hW]
      · rw [n5 s hsj, h3 s hs]
        by_cases hlt : s < j
        · rw [if_pos hlt, if_pos (by omega)]
        · rw [if_neg hlt, if_neg (by omega)]
    · intro k hk
      by_cases hkt : k < t
      · have q := h4 k hkt
        exact ⟨q.1, fun c => absurd (q.2 c).1 (by omega)⟩
      · by_cases hke : k = t
        · subst hke
          refine ⟨hp0, fun c => ?_⟩
          rw [hs1] at c
          have c' : 1 = 2 := c
          omega
        · obtain ⟨q1, q2⟩ := n6 (k - (t + 1)) (by omega)
          have e5 : t + 1 + (k - (t + 1)) = k := by omega
          rw [e5] at q1 q2
          refine ⟨q1, fun c => ?_⟩
          by_cases hlast : k - (t + 1) + 1 < n
          · exact absurd c (q2 hlast)
          · have e6 : k + 1 = t + 1 + n := by omega
            rw [e6, hs2] at c
            have c' : (if K.S ≤ j + 1 then 2 else 0) = 2 := c
            split at c'
            · exact ⟨by assumption, e6⟩
            · omega
  · have hl' : limboW W = false := by simpa using hl
    have hk3 : ¬ kdW W = 3 := fun c => hl ((kd_limbo W).1 c)
    have hbk : bkB K W = false := by unfold bkB; rw [hl']; rfl
    have hgn : gnB K W = false := by unfold gnB; rw [hl']; rfl
    rw [hbk] at hbN hfL
    rw [hgn] at hgN
    rw [if_neg (by simp)] at hfL
    have hs1 : reRun K X re0 (t + 1) = (Y, ⟨rbN K X (j + 1), rgN K X (j + 1), if K.S ≤ j + 1 then 2 else 0, j + 1, f⟩) := by
      rw [reRun_succ, h1, hbN, hgN]
      unfold reX
      rw [if_pos (show (0 : Nat) = 0 from rfl)]
      show (Y, if kdW (Y.getD (K.hd j) 0) = 3 then _ else _) = _
      rw [hYW, hW, if_neg hk3]
      rfl
    refine ⟨t + 1, Y, f, by omega, by omega, hs1, by rw [hbN, hfL]; exact h2, ?_, ?_⟩
    · intro s hs
      rw [h3 s hs]
      by_cases hlt : s < j
      · rw [if_pos hlt, if_pos (by omega)]
      · by_cases hsj : s = j
        · subst hsj
          rw [if_neg (by omega), if_pos (by omega), hW]
          unfold rcW
          rw [hl']
          rfl
        · rw [if_neg hlt, if_neg (by omega)]
    · intro k hk
      by_cases hkt : k < t
      · have q := h4 k hkt
        exact ⟨q.1, fun c => absurd (q.2 c).1 (by omega)⟩
      · obtain rfl : k = t := by omega
        refine ⟨hp0, fun c => ?_⟩
        rw [hs1] at c
        have c' : (if K.S ≤ j + 1 then 2 else 0) = 2 := c
        split at c'
        · exact ⟨by assumption, rfl⟩
        · omega
theorem rpAt_all {K : Cf} (hK : K.Ok) {X F : List Nat} (hT : Top K X 0 F) (hF : ∀ s ∈ F, limboW (X.getD (K.hd s) 0) = false) : ∀ j, j ≤ K.S → RpAt K X F j
  | 0, _ => ⟨0, X, _, Nat.le_refl _, by omega, by rw [if_neg (by have := hK.s1; omega)]; rfl, hT, fun s _ => by rw [if_neg (by omega)], fun k hk => absurd hk (by omega)⟩
  | j + 1, h => rpAt_step hK hF (by omega) (rpAt_all hK hT hF j (by omega))
/-- The whole of it. -/
theorem rp_all {K : Cf} (hK : K.Ok) {X F : List Nat} (hT : Top K X 0 F) (hF : ∀ s ∈ F, limboW (X.getD (K.hd s) 0) = false) :
    ∃ n Y, 1 ≤ n ∧ n ≤ 7 * K.S ∧ (reRun K X re0 n).1 = Y ∧ (reRun K X re0 n).2.back = rbN K X K.S ∧ (reRun K X re0 n).2.gone = rgN K X K.S ∧ (reRun K X re0 n).2.pc = 2 ∧ Top K Y (rbN K X K.S) (rfL K X F K.S) ∧ (∀ s, s < K.S → Y.getD (K.hd s) 0 = rcW K (X.getD (K.hd s) 0)) ∧
      ∀ k, k < n → (reRun K X re0 k).2.pc ≤ 1 ∧ ((reRun K X re0 (k + 1)).2.pc = 2 ↔ k + 1 = n) := by
  obtain ⟨t, Y, f, t1, t2, h1, h2, h3, h4⟩ := rpAt_all hK hT hF K.S (Nat.le_refl _)
  have hs := hK.s1
  rw [if_pos (Nat.le_refl _)] at h1
  refine ⟨t, Y, by omega, t2, by rw [h1], by rw [h1], by rw [h1], by rw [h1], h2, fun s hs => by rw [h3 s hs, if_pos hs], ?_⟩
  intro k hk
  obtain ⟨q1, q2⟩ := h4 k hk
  refine ⟨q1, fun c => (q2 c).2, fun c => ?_⟩
  rw [c, h1]
end Go.Proofs.YteechgmjaagbmabDoor
