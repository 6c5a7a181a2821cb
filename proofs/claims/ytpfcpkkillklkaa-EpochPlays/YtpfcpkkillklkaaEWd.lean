/- All guests and the Advance at once: what holds behind each step. -/
import Derived.Test.YtpfcpkkillklkaaEGuest
namespace Go.Proofs.Ytpfcpkkillklkaa
open Go.RowKit
open Mm (IsMem MS zeroMS)
set_option linter.unusedVariables false

inductive Gu where
  | fresh (e : Nat) (st : Int)
  | pinning (P E : Nat) (pc : Int) (x e : Nat) (st : Int)
  | inn (e : Nat) (st : Int)
  | leaving (Q e : Nat) (st : Int)

def Gu.five (cur : Array Value) (o : Nat) : Gu → Prop
  | .fresh e st => G5 cur o (.pointer none) (.pointer none) (.bool false) (.int .u64 (e : Nat)) (.int .i64 st)
  | .pinning P _ _ _ e st => G5 cur o (.pointer (some ⟨P, 0, none⟩)) (.pointer none) (.bool false) (.int .u64 (e : Nat)) (.int .i64 st)
  | .inn e st => G5 cur o (.pointer none) (.pointer none) (.bool true) (.int .u64 (e : Nat)) (.int .i64 st)
  | .leaving Q e st => G5 cur o (.pointer none) (.pointer (some ⟨Q, 0, none⟩)) (.bool true) (.int .u64 (e : Nat)) (.int .i64 st)
def Gu.blk : Gu → List Nat
  | .pinning P _ _ _ _ _ => [P]
  | .leaving Q _ _ => [Q]
  | _ => []
def Gu.mach (w : World) (i : Nat) : Gu → Prop
  | .pinning P E pc x _ _ => PinAt w P i E pc x
  | .leaving Q _ _ => LeaveAt w Q i 0
  | _ => True
def Gu.inv (ep p : Nat) : Gu → Prop
  | .fresh _ _ => True
  | .pinning _ _ pc x _ _ => (pc = 0 ∨ pc = 1 ∨ pc = 2) ∧ x ≤ ep ∧ (pc = 2 → p = 2 * x + 1)
  | .inn e st => p = 2 * e + 1 ∧ (ep = e ∨ ep = e + 1) ∧ 0 ≤ st ∧ st < 12
  | .leaving _ e _ => p = 2 * e + 1 ∧ (ep = e ∨ ep = e + 1)
/-- The epoch in which it is pinned. -/
def Gu.at : Gu → Option Nat
  | .inn e _ => some e
  | .leaving _ e _ => some e
  | _ => none
def updG (gs : Nat → Gu) (k : Nat) (g : Gu) : Nat → Gu := fun j => if j = k then g else gs j
theorem updG_same (gs : Nat → Gu) (k : Nat) (g : Gu) : updG gs k g k = g := if_pos rfl
theorem updG_other (gs : Nat → Gu) {k j : Nat} (h : j ≠ k) (g : Gu) : updG gs k g j = gs j := if_neg h

theorem Gu.mach_chg {l : List Nat} {w w' : World} {i : Nat} {g : Gu} (h : g.mach w i) (c : Chg l w w') (hn : ∀ b ∈ g.blk, b ∉ l) : g.mach w' i := by
  cases g with
  | fresh => trivial
  | inn => trivial
  | pinning P E pc x e st => exact IsPin.chg h c (hn P (by simp [Gu.blk]))
  | leaving Q e st => exact IsLeave.chg h c (hn Q (by simp [Gu.blk]))
theorem Gu.mach_lt {w : World} {i : Nat} {g : Gu} (h : g.mach w i) : ∀ b ∈ g.blk, b < w.heap.size := by
  intro b hb
  cases g with
  | fresh => simp [Gu.blk] at hb
  | inn => simp [Gu.blk] at hb
  | pinning P E pc x e st => simp [Gu.blk] at hb; subst hb; exact IsPin.lt h
  | leaving Q e st => simp [Gu.blk] at hb; subst hb; exact IsLeave.lt h
theorem Gu.five_kept {cur cur' : Array Value} {o : Nat} {g : Gu} (h : g.five cur o) (hc : ∀ k, k < 5 → cur'[o + k]? = cur[o + k]?) : g.five cur' o := by
  have key : ∀ {v0 v1 v2 v3 v4 : Value}, G5 cur o v0 v1 v2 v3 v4 → G5 cur' o v0 v1 v2 v3 v4 := fun h => ⟨(hc 0 (by omega)).trans h.c0, (hc 1 (by omega)).trans h.c1, (hc 2 (by omega)).trans h.c2, (hc 3 (by omega)).trans h.c3, (hc 4 (by omega)).trans h.c4⟩
  cases g <;> exact key h

def AInv (K : Cf) (ep : Nat) (gs : Nat → Gu) (apc : Int) (ax awh : Nat) : Prop :=
  apc = 0 ∨ (apc = 1 ∧ ax = ep ∧ awh < K.C ∧ ∀ j, j < awh → ∀ e, (gs j).at = some e → e = ep) ∨ (apc = 2 ∧ ax = ep ∧ ∀ j, j < K.C → ∀ e, (gs j).at = some e → e = ep)

theorem AInv.guest {K : Cf} {ep : Nat} {gs : Nat → Gu} {apc : Int} {ax awh i : Nat} {g' : Gu} (h : AInv K ep gs apc ax awh) (hat : ∀ e, g'.at = some e → (gs i).at = some e ∨ e = ep) : AInv K ep (updG gs i g') apc ax awh := by
  have key : ∀ n, (∀ j, j < n → ∀ e, (gs j).at = some e → e = ep) → ∀ j, j < n → ∀ e, (updG gs i g' j).at = some e → e = ep := fun n hn j hj e he => by
    by_cases hji : j = i
    · subst hji
      rw [updG_same] at he
      rcases hat e he with h1 | h1
      · exact hn j hj e h1
      · exact h1
    · rw [updG_other _ hji] at he
      exact hn j hj e he
  rcases h with h | ⟨h1, h2, h3, h4⟩ | ⟨h1, h2, h3⟩
  · exact .inl h
  · exact .inr (.inl ⟨h1, h2, h3, key _ h4⟩)
  · exact .inr (.inr ⟨h1, h2, key _ h3⟩)

/-- All that holds behind each step. -/
structure Wd (w wr : World) (K : Cf) (M G L A ep : Nat) (pins : Nat → Nat) (T : Int) (cur : Array Value) (gs : Nat → Gu) : Prop where
  mem : MemE wr M G K ep pins T
  row : IsRow wr L cur
  sz : cur.size = K.C * 5
  five : ∀ i, i < K.C → (gs i).five cur (i * 5)
  mach : ∀ i, i < K.C → (gs i).mach wr i
  inv : ∀ i, i < K.C → (gs i).inv ep (pins i)
  far : ∀ i, i < K.C → ∀ b ∈ (gs i).blk, b ≠ M ∧ b ≠ G ∧ b ≠ L ∧ b ≠ A ∧ w.heap.size + 1 ≤ b
  apart : ∀ i j, i < K.C → j < K.C → i ≠ j → ∀ b ∈ (gs i).blk, b ∉ (gs j).blk
  cfg : IsCfg wr w.heap.size K.S K.a K.C K.D K.g K.k
  bel : Below w.heap.size w wr
  hM : w.heap.size + 1 ≤ M
  hG : w.heap.size + 1 ≤ G
  hL : w.heap.size + 1 ≤ L ∧ L ≠ M ∧ L ≠ G
  hA : w.heap.size + 1 ≤ A ∧ A ≠ M ∧ A ≠ G ∧ A ≠ L
  lt : A < wr.heap.size

theorem Wd.below {w wr w' : World} {K : Cf} {M G L A ep : Nat} {pins : Nat → Nat} {T : Int} {cur : Array Value} {gs : Nat → Gu} (h : Wd w wr K M G L A ep pins T cur gs) (b : Below wr.heap.size wr w') : Wd w w' K M G L A ep pins T cur gs :=
  ⟨h.mem.below b, h.row.below b, h.sz, h.five, fun i hi => Gu.mach_chg (l := []) (h.mach i hi) (Chg.of_below b) (by simp), h.inv, h.far, h.apart, h.cfg.below b, h.bel.trans (b.mono h.bel.size), h.hM, h.hG, h.hL, h.hA, Nat.lt_of_lt_of_le h.lt b.size⟩

/-- A guest has gone a step on. -/
theorem Wd.upd {w wr w' : World} {K : Cf} {M G L A ep : Nat} {pins pins' : Nat → Nat} {T T' : Int} {cur cur' : Array Value} {gs : Nat → Gu} (h : Wd w wr K M G L A ep pins T cur gs) {i : Nat} (hi : i < K.C) {l : List Nat} (c : Chg l wr w') (hl : ∀ b ∈ l, b = M ∨ b = G ∨ b = L ∨ b ∈ (gs i).blk)
    (hm : MemE w' M G K ep pins' T') (hp : ∀ j, j ≠ i → pins' j = pins j) (hr : IsRow w' L cur') (hs : cur'.size = cur.size) (hc : ∀ p, (p < i * 5 ∨ i * 5 + 5 ≤ p) → cur'[p]? = cur[p]?) {g' : Gu} (h5 : g'.five cur' (i * 5)) (hmach : g'.mach w' i) (hinv : g'.inv ep (pins' i)) (hblk : ∀ b ∈ g'.blk, b ∈ (gs i).blk ∨ wr.heap.size ≤ b) :
    Wd w w' K M G L A ep pins' T' cur' (updG gs i g') := by
  have hsz := h.cfg.lt
  have hml := h.mem.lt
  have hrl := h.row.lt
  have hM := h.hM
  have hG := h.hG
  have hL := h.hL
  have hA := h.hA
  have hAl := h.lt
  have hlb : ∀ b ∈ l, w.heap.size + 1 ≤ b ∧ b ≠ A := fun b hb => by
    rcases hl b hb with rfl | rfl | rfl | hb'
    · omega
    · omega
    · omega
    · have := h.far i hi b hb'; omega
  refine ⟨hm, hr, hs.trans h.sz, ?_, ?_, ?_, ?_, ?_, h.cfg.chg c (fun hb => by have := hlb _ hb; omega), c.below h.bel (fun b hb => by have := hlb _ hb; omega) (Nat.le_refl _), hM, hG, hL, hA, Nat.lt_of_lt_of_le hAl c.size⟩
  · intro j hj
    by_cases hji : j = i
    · subst hji; rw [updG_same]; exact h5
    · rw [updG_other _ hji]
      exact Gu.five_kept (h.five j hj) fun k hk => hc _ (by omega)
  · intro j hj
    by_cases hji : j = i
    · subst hji; rw [updG_same]; exact hmach
    · rw [updG_other _ hji]
      refine Gu.mach_chg (h.mach j hj) c fun b hb hbl => ?_
      have hf := h.far j hj b hb
      rcases hl b hbl with rfl | rfl | rfl | hb'
      · omega
      · omega
      · omega
      · exact h.apart j i hj hi hji b hb hb'
  · intro j hj
    by_cases hji : j = i
    · subst hji; rw [updG_same]; exact hinv
    · rw [updG_other _ hji, hp j hji]; exact h.inv j hj
  · intro j hj b hb
    by_cases hji : j = i
    · subst hji
      rw [updG_same] at hb
      rcases hblk b hb with h1 | h1
      · exact h.far j hi b h1
      · omega
    · rw [updG_other _ hji] at hb
      exact h.far j hj b hb
  · intro j k hj hk hjk b hb hb2
    by_cases hji : j = i
    · subst hji
      rw [updG_same] at hb
      rw [updG_other _ (Ne.symm hjk)] at hb2
      rcases hblk b hb with h1 | h1
      · exact h.apart j k hi hk hjk b h1 hb2
      · have := Gu.mach_lt (h.mach k hk) b hb2; omega
    · rw [updG_other _ hji] at hb
      by_cases hki : k = i
      · subst hki
        rw [updG_same] at hb2
        rcases hblk b hb2 with h1 | h1
        · exact h.apart j k hj hi hjk b hb h1
        · have := Gu.mach_lt (h.mach j hj) b hb; omega
      · rw [updG_other _ hki] at hb2
        exact h.apart j k hj hk hjk b hb hb2

theorem set_out {cur : Array Value} {i k : Nat} (v : Value) (hk : k < 5) : ∀ p, (p < i * 5 ∨ i * 5 + 5 ≤ p) → (cur.setIfInBounds (i * 5 + k) v)[p]? = cur[p]? := fun p hp => Array.getElem?_setIfInBounds_ne (by omega)
theorem get_set {cur : Array Value} {i j : Nat} {v : Value} (h : i < cur.size) : (cur.setIfInBounds i v)[j]? = if i = j then some v else cur[j]? := by
  rw [Array.getElem?_setIfInBounds]
  by_cases hij : i = j
  · subst hij; simp [h]
  · simp [hij]

/-- A guest's step, whatever it does. -/
theorem Wd.guest {w wr : World} {K : Cf} (hK : K.Ok) {M G L A ep : Nat} {pins : Nat → Nat} {T : Int} {cur : Array Value} {gs : Nat → Gu} (h : Wd w wr K M G L A ep pins T cur gs) {i : Nat} (hi : i < K.C) (hT : 0 ≤ T ∧ T < 1000000) (he : ep < 1000000) (st : Int) (hst : 0 ≤ st ∧ st < 12) :
    Calls Try.prog 12 #[.pointer (some ⟨L, i * 5, none⟩), .agg K.cs, .pointer (some ⟨M, 0, none⟩), .int .i64 (i : Nat), .int .i64 st] wr fun r w' => r = .returned (.bool true) ∧ ∃ pins' T' cur' g', Wd w w' K M G L A ep pins' T' cur' (updG gs i g') ∧ T ≤ T' ∧ T' ≤ T + 1 ∧ (∀ e, g'.at = some e → (gs i).at = some e ∨ e = ep) ∧ ∃ l, Chg l wr w' ∧ A ∉ l := by
  obtain ⟨hL1, lm, lg⟩ := h.hL
  have hA := h.hA
  have h5 := h.five i hi
  have hmc := h.mach i hi
  have hv := h.inv i hi
  have hfar := h.far i hi
  have hsz : i * 5 + 5 ≤ cur.size := by rw [h.sz]; omega
  have hrl := h.row.lt
  generalize hg : gs i = g at *
  cases g with
  | fresh e s =>
    refine (guest_begins hK h.mem h.row hT lm lg h5 hi).mono fun r w' ⟨Q, hr, hm, hrow, hq, hQ, hc⟩ => ⟨hr, pins, T, _, .pinning Q 0 0 0 e s, h.upd hi hc (by simp) hm (fun _ _ => rfl) hrow (by simp) (set_out (k := 0) _ (by omega)) ?_ hq ⟨.inl rfl, by omega, fun h => by omega⟩ (fun b hb => .inr (by simp [Gu.blk] at hb; omega)), by omega, by omega, fun e he => by simp [Gu.at] at he, _, hc, by simp; omega⟩
    exact ⟨by rw [get_set (by omega), if_pos rfl], by rw [get_set (by omega), if_neg (by omega)]; exact h5.c1, by rw [get_set (by omega), if_neg (by omega)]; exact h5.c2, by rw [get_set (by omega), if_neg (by omega)]; exact h5.c3, by rw [get_set (by omega), if_neg (by omega)]; exact h5.c4⟩
  | inn e s =>
    obtain ⟨hv1, hv2, hv3, hv4⟩ := hv
    by_cases hs : 0 < s
    · refine (guest_stay h.mem h.row hT lm lg h5 ⟨hs, by omega⟩).mono fun r w' ⟨hr, hm, hrow, hc⟩ => ⟨hr, pins, T, _, .inn e (s - 1), h.upd hi hc (by simp) hm (fun _ _ => rfl) hrow (by simp) (set_out (k := 4) _ (by omega)) ?_ trivial ⟨hv1, hv2, by omega, by omega⟩ (fun b hb => by simp [Gu.blk] at hb), by omega, by omega, fun e' he => .inl he, _, hc, by simp; omega⟩
      exact ⟨by rw [get_set (by omega), if_neg (by omega)]; exact h5.c0, by rw [get_set (by omega), if_neg (by omega)]; exact h5.c1, by rw [get_set (by omega), if_neg (by omega)]; exact h5.c2, by rw [get_set (by omega), if_neg (by omega)]; exact h5.c3, by rw [get_set (by omega), if_pos rfl]⟩
    · have hs0 : s = 0 := by omega
      subst hs0
      refine (guest_leaves hK h.mem h.row hT lm lg h5 hi).mono fun r w' ⟨Q, hr, hm, hrow, hq, hQ, hc⟩ => ⟨hr, pins, T, _, .leaving Q e 0, h.upd hi hc (by simp) hm (fun _ _ => rfl) hrow (by simp) (set_out (k := 1) _ (by omega)) ?_ hq ⟨hv1, hv2⟩ (fun b hb => .inr (by simp [Gu.blk] at hb; omega)), by omega, by omega, fun e' he => .inl he, _, hc, by simp; omega⟩
      exact ⟨by rw [get_set (by omega), if_neg (by omega)]; exact h5.c0, by rw [get_set (by omega), if_pos rfl], by rw [get_set (by omega), if_neg (by omega)]; exact h5.c2, by rw [get_set (by omega), if_neg (by omega)]; exact h5.c3, by rw [get_set (by omega), if_neg (by omega)]; exact h5.c4⟩
  | leaving Q e s =>
    have hQ := hfar Q (by simp [Gu.blk])
    refine (guest_left h.mem h.row hT lm lg h5 hmc hQ.2.2.1 hQ.1 hQ.2.1 hi).mono fun r w' ⟨hr, hm, hrow, hc⟩ => ⟨hr, _, T + 1, _, .fresh e s, h.upd hi hc (by rw [hg]; simp [Gu.blk]) hm (fun j hj => upd_other _ hj _) hrow (by simp) (fun p hp => (set_out (k := 1) _ (by omega) p hp).trans (set_out (k := 2) _ (by omega) p hp)) ?_ trivial trivial (fun b hb => by simp [Gu.blk] at hb), by omega, by omega, fun e' he => by simp [Gu.at] at he, _, hc, by simp; omega⟩
    have hz : i * 5 + 1 < (cur.setIfInBounds (i * 5 + 2) (.bool false)).size := by simp; omega
    exact ⟨by rw [get_set hz, if_neg (by omega), get_set (by omega), if_neg (by omega)]; exact h5.c0, by rw [get_set hz, if_pos rfl], by rw [get_set hz, if_neg (by omega), get_set (by omega), if_pos rfl], by rw [get_set hz, if_neg (by omega), get_set (by omega), if_neg (by omega)]; exact h5.c3, by rw [get_set hz, if_neg (by omega), get_set (by omega), if_neg (by omega)]; exact h5.c4⟩
  | pinning P E pc x e s =>
    have hP := hfar P (by simp [Gu.blk])
    obtain ⟨hv1, hv2, hv3⟩ := hv
    rcases hv1 with rfl | rfl | rfl
    · refine (guest_pins (pc := 0) h.mem h.row hT lm lg h5 hmc hP.2.2.1 fun wq hm hp => pinE_0 hm hp hP.1 hP.2.1 (by omega)).mono fun r w' ⟨hr, hm, hrow, hp, hc⟩ => ⟨hr, pins, T + 1, _, .pinning P E 1 ep e s, h.upd hi hc (by rw [hg]; simp [Gu.blk]) hm (fun _ _ => rfl) hrow rfl (fun _ _ => rfl) h5 hp ⟨by omega, Nat.le_refl _, fun h => by omega⟩ (fun b hb => .inl (by rw [hg]; exact hb)), by omega, by omega, fun e' he => by simp [Gu.at] at he, _, hc, by simp; omega⟩
    · refine (guest_pins (pc := 1) h.mem h.row hT lm lg h5 hmc hP.2.2.1 fun wq hm hp => pinE_1 hm hp hP.1 hP.2.1 (by omega) hi (by omega)).mono fun r w' ⟨hr, hm, hrow, hp, hc⟩ => ⟨hr, _, T + 1, _, .pinning P E 2 x e s, h.upd hi hc (by rw [hg]; simp [Gu.blk]) hm (fun j hj => upd_other _ hj _) hrow rfl (fun _ _ => rfl) h5 hp ⟨by omega, hv2, fun _ => upd_same _ _ _⟩ (fun b hb => .inl (by rw [hg]; exact hb)), by omega, by omega, fun e' he => by simp [Gu.at] at he, _, hc, by simp; omega⟩
    · by_cases hx : ep = x
      · subst hx
        refine (guest_pinned (pc := 2) (st := st) h.mem h.row hT lm lg h5 hmc hP.2.2.1 fun wq hm hp => pinE_2y hm hp hP.1 hP.2.1 (by omega)).mono fun r w' ⟨hr, hm, hrow, hc⟩ => ⟨hr, pins, T + 1, _, .inn ep st, h.upd hi hc (by rw [hg]; simp [Gu.blk]) hm (fun _ _ => rfl) hrow (by simp) (fun p hp => (set_out (k := 0) _ (by omega) p hp).trans ((set_out (k := 4) _ (by omega) p hp).trans ((set_out (k := 3) _ (by omega) p hp).trans (set_out (k := 2) _ (by omega) p hp)))) ?_ trivial ⟨hv3 rfl, .inl rfl, hst.1, hst.2⟩ (fun b hb => by simp [Gu.blk] at hb), by omega, by omega, fun e' he => .inr (by simp [Gu.at] at he; omega), _, hc, by simp; omega⟩
        have z1 : i * 5 + 3 < (cur.setIfInBounds (i * 5 + 2) (.bool true)).size := by simp; omega
        have z2 : i * 5 + 4 < ((cur.setIfInBounds (i * 5 + 2) (.bool true)).setIfInBounds (i * 5 + 3) (.int .u64 (ep : Nat))).size := by simp; omega
        have z3 : i * 5 < (((cur.setIfInBounds (i * 5 + 2) (.bool true)).setIfInBounds (i * 5 + 3) (.int .u64 (ep : Nat))).setIfInBounds (i * 5 + 4) (.int .i64 st)).size := by simp; omega
        exact ⟨by rw [get_set z3, if_pos rfl], by rw [get_set z3, if_neg (by omega), get_set z2, if_neg (by omega), get_set z1, if_neg (by omega), get_set (by omega), if_neg (by omega)]; exact h5.c1, by rw [get_set z3, if_neg (by omega), get_set z2, if_neg (by omega), get_set z1, if_neg (by omega), get_set (by omega), if_pos rfl], by rw [get_set z3, if_neg (by omega), get_set z2, if_neg (by omega), get_set z1, if_pos rfl], by rw [get_set z3, if_neg (by omega), get_set z2, if_pos rfl]⟩
      · refine (guest_pins (pc := 2) h.mem h.row hT lm lg h5 hmc hP.2.2.1 fun wq hm hp => pinE_2n hm hp hP.1 hP.2.1 (by omega) hx).mono fun r w' ⟨hr, hm, hrow, hp, hc⟩ => ⟨hr, pins, T + 1, _, .pinning P E 1 ep e s, h.upd hi hc (by rw [hg]; simp [Gu.blk]) hm (fun _ _ => rfl) hrow rfl (fun _ _ => rfl) h5 hp ⟨by omega, Nat.le_refl _, fun h => by omega⟩ (fun b hb => .inl (by rw [hg]; exact hb)), by omega, by omega, fun e' he => by simp [Gu.at] at he, _, hc, by simp; omega⟩
end Go.Proofs.Ytpfcpkkillklkaa
