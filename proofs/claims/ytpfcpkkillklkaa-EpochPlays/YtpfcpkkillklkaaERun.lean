/- One Advance's way, step by step; a Pin alone. -/
import Derived.Test.YtpfcpkkillklkaaESem
namespace Go.Proofs.Ytpfcpkkillklkaa
open Go.RowKit
open Mm (IsMem MS touched Only zeroMS)

/-- How far an Advance is: it began in the epoch ep. -/
def AdvG (w : World) (P : Nat) (K : Cf) (ep n : Nat) : Prop :=
  (n = 0 ∧ ∃ E e wh, AdvAt w P K E 0 e wh) ∨ (1 ≤ n ∧ n ≤ K.C ∧ ∃ E, AdvAt w P K E 1 ep (n - 1)) ∨ (n = K.C + 1 ∧ ∃ E wh, AdvAt w P K E 2 ep wh) ∨ (K.C + 2 ≤ n ∧ ∃ e wh, AdvAt w P K (ep + 1) 3 e wh)
def epo (K : Cf) (ep n : Nat) : Nat := if K.C + 2 ≤ n then ep + 1 else ep

theorem AdvG.chg {L : List Nat} {w w' : World} {P : Nat} {K : Cf} {ep n : Nat} (h : AdvG w P K ep n) (x : Chg L w w') (hn : P ∉ L) : AdvG w' P K ep n := by
  rcases h with ⟨h0, E, e, wh, h⟩ | ⟨h0, h1, E, h⟩ | ⟨h0, E, wh, h⟩ | ⟨h0, e, wh, h⟩
  · exact .inl ⟨h0, E, e, wh, h.chg x hn⟩
  · exact .inr (.inl ⟨h0, h1, E, h.chg x hn⟩)
  · exact .inr (.inr (.inl ⟨h0, E, wh, h.chg x hn⟩))
  · exact .inr (.inr (.inr ⟨h0, e, wh, h.chg x hn⟩))
theorem AdvG.below {w w' : World} {P : Nat} {K : Cf} {ep n : Nat} (h : AdvG w P K ep n) (x : Below w.heap.size w w') : AdvG w' P K ep n := h.chg (L := []) (Chg.of_below x) (by simp)
theorem AdvG.lt {w : World} {P : Nat} {K : Cf} {ep n : Nat} (h : AdvG w P K ep n) : P < w.heap.size := by
  rcases h with ⟨h0, E, e, wh, h⟩ | ⟨h0, h1, E, h⟩ | ⟨h0, E, wh, h⟩ | ⟨h0, e, wh, h⟩ <;> exact h.lt
theorem AdvG.new {w : World} {P : Nat} {K : Cf} {ep : Nat} (h : AdvAt w P K 0 0 0 0) : AdvG w P K ep 0 := .inl ⟨rfl, _, _, _, h⟩
theorem AdvG.done {w : World} {P : Nat} {K : Cf} {ep n : Nat} (h : AdvG w P K ep n) (hn : K.C + 2 ≤ n) : w.cell? ⟨P, 0, none⟩ = some (.int .u64 ((ep + 1 : Nat) : Int)) := by
  rcases h with ⟨h0, E, e, wh, h⟩ | ⟨h0, h1, E, h⟩ | ⟨h0, E, wh, h⟩ | ⟨h0, e, wh, h⟩
  · omega
  · omega
  · omega
  · exact h.cells.1

theorem adv_go {w : World} {M G P : Nat} {K : Cf} (hK : K.Ok) {ep n : Nat} {pins : Nat → Nat} {T : Int} (hm : MemE w M G K (epo K ep n) pins T) (hp : AdvG w P K ep n) (h1 : P ≠ M) (h2 : P ≠ G) (ht : 0 ≤ T ∧ T < 4611686018427387904) (he : ep < 4611686018427387904) (hC : 1 ≤ K.C) (hv : ∀ j, j < K.C → pins j = 0 ∨ pins j = 2 * ep + 1) :
    Calls Try.prog 14 #[.pointer (some ⟨P, 0, none⟩), .pointer (some ⟨M, 0, none⟩)] w fun r w' => r = .returned (.bool (decide (K.C + 1 ≤ n))) ∧ MemE w' M G K (epo K ep (n + 1)) pins (if K.C + 2 ≤ n then T else T + 1) ∧ AdvG w' P K ep (n + 1) ∧ Chg [P, M, G] w w' := by
  rcases hp with ⟨h0, E, e, wh, h⟩ | ⟨h0, h3, E, h⟩ | ⟨h0, E, wh, h⟩ | ⟨h0, e, wh, h⟩
  · subst h0
    rw [show epo K ep 0 = ep from if_neg (by omega)] at hm
    rw [show epo K ep (0 + 1) = ep from if_neg (by omega), if_neg (by omega), decide_eq_false (by omega)]
    exact (advE_0 hm h h1 h2 ht).mono fun _ _ ⟨hr, hm', hp', hc⟩ => ⟨hr, hm', .inr (.inl ⟨by omega, by omega, E, hp'⟩), hc⟩
  · rw [show epo K ep n = ep from if_neg (by omega)] at hm
    rw [show epo K ep (n + 1) = ep from if_neg (by omega), if_neg (by omega), decide_eq_false (by omega)]
    refine (advE_1go hK hm h h1 h2 ht (by omega) he (hv _ (by omega))).mono fun _ _ ⟨hr, hm', hp', hc⟩ => ⟨hr, hm', ?_, hc⟩
    by_cases hn : n = K.C
    · rw [if_pos (by omega)] at hp'
      exact .inr (.inr (.inl ⟨by omega, E, _, hp'⟩))
    · rw [if_neg (by omega), show n - 1 + 1 = n + 1 - 1 by omega] at hp'
      exact .inr (.inl ⟨by omega, by omega, E, hp'⟩)
  · rw [show epo K ep n = ep from if_neg (by omega)] at hm
    rw [show epo K ep (n + 1) = ep + 1 from if_pos (by omega), if_neg (by omega), decide_eq_true (by omega)]
    exact (advE_2y hm h h1 h2 ht he).mono fun _ _ ⟨hr, hm', hp', hc⟩ => ⟨hr, hm', .inr (.inr (.inr ⟨by omega, _, _, hp'⟩)), hc⟩
  · rw [show epo K ep n = ep + 1 from if_pos (by omega)] at hm
    rw [show epo K ep (n + 1) = ep + 1 from if_pos (by omega), if_pos (by omega), decide_eq_true (by omega)]
    exact (adv_3 h).mono fun _ _ ⟨hr, hw⟩ => by
      subst hw
      exact ⟨hr, hm, .inr (.inr (.inr ⟨by omega, _, _, h⟩)), Chg.refl _ _⟩

/-- An Advance that waits for a client. -/
theorem adv_stay {w : World} {M G P : Nat} {K : Cf} (hK : K.Ok) {ep n k : Nat} {pins : Nat → Nat} {T : Int} (hm : MemE w M G K ep pins T) (hp : AdvG w P K ep n) (h1 : P ≠ M) (h2 : P ≠ G) (ht : 0 ≤ T ∧ T < 4611686018427387904) (he : ep < 4611686018427387904) (hk : k < K.C) (hn : n ≤ k + 1) (hv : ∀ j, j < k → pins j = 0 ∨ pins j = 2 * ep + 1) (hv0 : pins k ≠ 0) (hv1 : pins k ≠ 2 * ep + 1) :
    Calls Try.prog 14 #[.pointer (some ⟨P, 0, none⟩), .pointer (some ⟨M, 0, none⟩)] w fun r w' => r = .returned (.bool false) ∧ MemE w' M G K ep pins (T + 1) ∧ (∃ n', n' ≤ k + 1 ∧ AdvG w' P K ep n') ∧ Chg [P, M, G] w w' := by
  rcases hp with ⟨h0, E, e, wh, h⟩ | ⟨h0, h3, E, h⟩ | ⟨h0, E, wh, h⟩ | ⟨h0, e, wh, h⟩
  · exact (advE_0 hm h h1 h2 ht).mono fun _ _ ⟨hr, hm', hp', hc⟩ => ⟨hr, hm', ⟨1, by omega, .inr (.inl ⟨by omega, by omega, E, hp'⟩)⟩, hc⟩
  · by_cases hnk : n = k + 1
    · subst hnk
      rw [Nat.add_sub_cancel] at h
      exact (advE_1stay hK hm h h1 h2 ht hk he hv0 hv1).mono fun _ _ ⟨hr, hm', hp', hc⟩ => ⟨hr, hm', ⟨k + 1, by omega, .inr (.inl ⟨by omega, by omega, E, hp'⟩)⟩, hc⟩
    · refine (advE_1go hK hm h h1 h2 ht (by omega) he (hv _ (by omega))).mono fun _ _ ⟨hr, hm', hp', hc⟩ => ⟨hr, hm', ⟨n + 1, by omega, ?_⟩, hc⟩
      rw [if_neg (by omega), show n - 1 + 1 = n + 1 - 1 by omega] at hp'
      exact .inr (.inl ⟨by omega, by omega, E, hp'⟩)
  · omega
  · omega

/-- A Pin alone. -/
theorem pin_alone {w : World} {M G P k : Nat} {K : Cf} {ep : Nat} {pins : Nat → Nat} {T : Int} (hm : MemE w M G K ep pins T) (hp : PinAt w P k 0 0 0) (h1 : P ≠ M) (h2 : P ≠ G) (ht : 0 ≤ T ∧ T + 3 < 4611686018427387904) (hk : k < K.C) (he : ep < 4611686018427387904) :
    Calls Try.prog 17 #[.pointer (some ⟨P, 0, none⟩), .pointer (some ⟨M, 0, none⟩)] w fun r w1 => r = .returned (.bool false) ∧
      Calls Try.prog 17 #[.pointer (some ⟨P, 0, none⟩), .pointer (some ⟨M, 0, none⟩)] w1 fun r w2 => r = .returned (.bool false) ∧
        Calls Try.prog 17 #[.pointer (some ⟨P, 0, none⟩), .pointer (some ⟨M, 0, none⟩)] w2 fun r w3 => r = .returned (.bool true) ∧
          MemE w3 M G K ep (upd pins k (2 * ep + 1)) (T + 3) ∧ PinAt w3 P k ep 3 ep ∧ Chg [P, M, G] w w3 := by
  refine (pinE_0 hm hp h1 h2 (by omega)).mono fun _ _ ⟨hr, hm1, hp1, hc1⟩ => ⟨hr, ?_⟩
  refine (pinE_1 hm1 hp1 h1 h2 (by omega) hk he).mono fun _ _ ⟨hr, hm2, hp2, hc2⟩ => ⟨hr, ?_⟩
  refine (pinE_2y hm2 hp2 h1 h2 (by omega)).mono fun _ _ ⟨hr, hm3, hp3, hc3⟩ => ⟨hr, ?_, hp3, (hc1.trans hc2).trans hc3⟩
  rw [show T + 3 = T + 1 + 1 + 1 by omega]
  exact hm3
end Go.Proofs.Ytpfcpkkillklkaa
