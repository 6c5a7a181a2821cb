/- A Sweep alone and a Reclaim alone, from the first step to the last. -/
import Derived.Test.YteechgmjaagbmabDoorBNew
namespace Go.Proofs.YteechgmjaagbmabDoor
open Go.RowKit
open Mm (IsMem MS touched Only IsWords)
open Hh (WT)

theorem swX_len (K : Cf) (X : List Nat) (s : Sw) : (swX K X s).1.length = X.length := by
  unfold swX
  repeat' split
  all_goals simp
theorem swX_ok {K : Cf} {X : List Nat} {s : Sw} (h : s.Ok K) (h1 : s.pc ≤ 1) (hX : ∀ i, X.getD i 0 < 18446744073709551616) (hg : s.gone < 4611686018427387904) : (swX K X s).2.Ok K := by
  have hsl := h.sl h1
  have hn : ∀ (t : Sw), t.e = s.e → t.sl = s.sl → t.now < 18446744073709551616 → t.gone ≤ 4611686018427387904 → (swNext K t).Ok K := fun t h1 h2 h3 h4 => by
    unfold swNext
    refine ⟨h1 ▸ h.e, ?_, ?_, h3, h4⟩
    · show (if K.S ≤ t.sl + 1 then 2 else 0) ≤ 2
      split <;> omega
    · intro h5
      have h6 : (if K.S ≤ t.sl + 1 then 2 else 0) ≤ 1 := h5
      show t.sl + 1 < K.S
      split at h6 <;> omega
  unfold swX
  split
  · show (ite _ _ _ : Sw).Ok K
    split
    · exact ⟨h.e, by show 1 ≤ 2; omega, fun _ => hsl, rtW_lt (hX _) _, h.gone⟩
    · exact hn _ rfl rfl (hX _) h.gone
  · split
    · split
      · exact hn _ rfl rfl h.now (by show s.gone + 1 ≤ _; omega)
      · exact ⟨h.e, by show 0 ≤ 2; omega, fun _ => hsl, h.now, h.gone⟩
    · exact h
def swRun (K : Cf) (X : List Nat) (s : Sw) : Nat → List Nat × Sw
  | 0 => (X, s)
  | n + 1 => swX K (swRun K X s n).1 (swRun K X s n).2

def SwI (w : World) (K : Cf) (M G P : Nat) (X : List Nat) (s : Sw) (T0 : Nat) (k : Nat) (wr : World) : Prop :=
  ∃ c, InA w wr M G K.N (swRun K X s k).1 ((T0 + k : Nat) : Int) P c 49 ∧ SwAt c 0 K (swRun K X s k).2 ∧ (swRun K X s k).2.Ok K ∧ (swRun K X s k).2.gone ≤ s.gone + k
theorem swX_gone (K : Cf) (X : List Nat) (s : Sw) : (swX K X s).2.gone ≤ s.gone + 1 := by
  unfold swX swNext
  repeat' split
  all_goals (first | (show s.gone ≤ _; omega) | (show s.gone + 1 ≤ _; omega))
theorem sw_ends {w : World} {K : Cf} (hK : K.Ok) {M G P : Nat} {X : List Nat} {s : Sw} {T0 n most : Nat} (h0 : SwI w K M G P X s T0 0 w) (h1 : 1 ≤ n) (hn : n ≤ most) (hm : most < 2305843009213693952) (hT : T0 < 2305843009213693952) (hg : s.gone < 2305843009213693952)
    (hpc : ∀ k, k < n → (swRun K X s k).2.pc ≤ 1 ∧ ((swRun K X s (k + 1)).2.pc = 2 ↔ k + 1 = n)) :
    Calls Tryd.prog 12 #[.iface 32 (.pointer (some ⟨P, 0, none⟩)), .pointer (some ⟨M, 0, none⟩), .int .i64 (most : Nat)] w fun e w' => e = .returned (.bool true) ∧ SwI w K M G P X s T0 n w' := by
  refine ends_sw (I := SwI w K M G P X s T0) (n := n) (T0 := T0) h0 h1 hn (by omega) (by omega) ?_ ?_
  · rintro k wr ⟨c, is, _⟩
    exact touchesX is.mem
  · rintro k wr hk ⟨c, is, hs, ok, hgo⟩
    obtain ⟨p1, p2⟩ := hpc k hk
    have q := sw_any hK is.restart hs ok p1 (by omega) (by omega)
    have e : decide ((swX K (swRun K X s k).1 (swRun K X s k).2).2.pc = 2) = decide (k + 1 = n) := decide_eq_decide.2 p2
    rw [e] at q
    refine q.mono fun r w' ⟨hr, c', i', s', _⟩ => ⟨hr, c', ?_, s', swX_ok ok p1 (fun i => is.mem.fits i) (by omega), ?_⟩
    · have j := is.join i'
      have ec : ((T0 + k : Nat) : Int) + 1 = ((T0 + (k + 1) : Nat) : Int) := by omega
      rw [ec] at j
      exact j
    · have := swX_gone K (swRun K X s k).1 (swRun K X s k).2
      show (swX K (swRun K X s k).1 (swRun K X s k).2).2.gone ≤ _
      omega

theorem reX_len (K : Cf) (X : List Nat) (r : Re) : (reX K X r).1.length = X.length := by
  unfold reX
  split
  · rfl
  · split
    · exact frX_len K X r.f
    · rfl
def reRun (K : Cf) (X : List Nat) (r : Re) : Nat → List Nat × Re
  | 0 => (X, r)
  | n + 1 => reX K (reRun K X r n).1 (reRun K X r n).2
theorem reX_ok {K : Cf} {X : List Nat} {r : Re} (h : r.Ok K) (h1 : r.pc ≤ 1) (hX : ∀ i, X.getD i 0 < 18446744073709551616) : (reX K X r).2.Ok K := by
  have hsl := h.sl h1
  have hb := h.back
  have hg := h.gone
  have hn : ∀ (t : Re), t.sl = r.sl → t.back ≤ r.sl + 1 → t.gone ≤ r.sl + 1 → (reNext K t).Ok K := fun t h2 h3 h4 => by
    unfold reNext
    refine ⟨?_, ?_, ?_, ?_, ?_⟩
    · show (if K.S ≤ t.sl + 1 then 2 else 0) ≤ 2
      split <;> omega
    · intro h5
      have h6 : (if K.S ≤ t.sl + 1 then 2 else 0) ≤ 1 := h5
      show t.sl + 1 < K.S
      split at h6 <;> omega
    · show t.back ≤ t.sl + 1; omega
    · show t.gone ≤ t.sl + 1; omega
    · intro h5
      have h6 : (if K.S ≤ t.sl + 1 then 2 else 0) = 1 := h5
      split at h6 <;> omega
  unfold reX
  split
  · show (ite _ _ _ : Re).Ok K
    split
    · exact ⟨by show 1 ≤ 2; omega, fun _ => hsl, hb, hg, fun _ => ⟨⟨⟨by show 0 ≤ 3; omega, by show 0 < _; omega, hsl⟩, by show 0 ≤ 3; omega, fun _ => by show 0 ≤ 2; omega, by show 0 < _; omega⟩, by show 0 ≤ 2; omega⟩⟩
    · exact hn r rfl (by omega) (by omega)
  · split
    · rename_i h5
      obtain ⟨f1, f2⟩ := h.f h5
      have f3 := frX_ok f1 f2 hX
      show (ite _ _ _ : Re).Ok K
      split
      · refine hn _ rfl ?_ ?_
        · show r.back + (frX K X r.f).2.back.toNat ≤ _
          have := Bool.toNat_le (frX K X r.f).2.back
          omega
        · show r.gone + (frX K X r.f).2.gone.toNat ≤ _
          have := Bool.toNat_le (frX K X r.f).2.gone
          omega
      · rename_i h6
        refine ⟨h.pc, h.sl, hb, hg, fun _ => ⟨f3, ?_⟩⟩
        have := f3.pc
        show (frX K X r.f).2.pc ≤ 2
        omega
    · exact h
def ReI (w : World) (K : Cf) (M G P : Nat) (X : List Nat) (r : Re) (T0 : Nat) (k : Nat) (wr : World) : Prop :=
  ∃ c, InA w wr M G K.N (reRun K X r k).1 ((T0 + k : Nat) : Int) P c 63 ∧ ReAt c 0 K (reRun K X r k).2 ∧ (reRun K X r k).2.Ok K
theorem re_ends {w : World} {K : Cf} (hK : K.Ok) {M G P : Nat} {X : List Nat} {s : Re} {T0 n most : Nat} (h0 : ReI w K M G P X s T0 0 w) (h1 : 1 ≤ n) (hn : n ≤ most) (hm : most < 2305843009213693952) (hT : T0 < 2305843009213693952)
    (hpc : ∀ k, k < n → (reRun K X s k).2.pc ≤ 1 ∧ ((reRun K X s (k + 1)).2.pc = 2 ↔ k + 1 = n)) :
    Calls Tryd.prog 12 #[.iface 52 (.pointer (some ⟨P, 0, none⟩)), .pointer (some ⟨M, 0, none⟩), .int .i64 (most : Nat)] w fun e w' => e = .returned (.bool true) ∧ ReI w K M G P X s T0 n w' := by
  refine ends_re (I := ReI w K M G P X s T0) (n := n) (T0 := T0) h0 h1 hn (by omega) (by omega) ?_ ?_
  · rintro k wr ⟨c, is, _⟩
    exact touchesX is.mem
  · rintro k wr hk ⟨c, is, hs, ok⟩
    obtain ⟨p1, p2⟩ := hpc k hk
    have q := re_any hK is.restart hs ok p1 (by omega)
    have e : decide ((reX K (reRun K X s k).1 (reRun K X s k).2).2.pc = 2) = decide (k + 1 = n) := decide_eq_decide.2 p2
    rw [e] at q
    refine q.mono fun r w' ⟨hr, c', i', s', _⟩ => ⟨hr, c', ?_, s', reX_ok ok p1 (fun i => is.mem.fits i)⟩
    have j := is.join i'
    have ec : ((T0 + k : Nat) : Int) + 1 = ((T0 + (k + 1) : Nat) : Int) := by omega
    rw [ec] at j
    exact j
end Go.Proofs.YteechgmjaagbmabDoor
