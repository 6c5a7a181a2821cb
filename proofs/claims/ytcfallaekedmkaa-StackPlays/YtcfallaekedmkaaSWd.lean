/- All takers at once: what holds behind each step. -/
import Derived.Test.YtcfallaekedmkaaSTake3
namespace Go.Proofs.Ytcfallaekedmkaa
open Go.RowKit
open Mm (IsMem MS zeroMS)
set_option linter.unusedVariables false

/-- How often a slot is had. -/
def cnt (s : Nat) : List Tk → Nat
  | [] => 0
  | t :: ts => t.hold.count s + cnt s ts

theorem cnt_set (s : Nat) (t' : Tk) : ∀ (ts : List Tk) (i : Nat) (hi : i < ts.length), cnt s (ts.set i t') + (ts[i]).hold.count s = cnt s ts + t'.hold.count s
  | t :: ts, 0, _ => by simp [cnt]; omega
  | t :: ts, i + 1, hi => by
    have := cnt_set s t' ts i (by simpa using hi)
    simp [cnt]
    omega
theorem cnt_one (s : Nat) : ∀ (ts : List Tk) (i : Nat) (hi : i < ts.length), (ts[i]).hold.count s ≤ cnt s ts
  | t :: ts, 0, _ => by simp [cnt]
  | t :: ts, i + 1, hi => by
    have := cnt_one s ts i (by simpa using hi)
    simp [cnt]
    omega
theorem cnt_two (s : Nat) : ∀ (ts : List Tk) (i j : Nat) (hi : i < ts.length) (hj : j < ts.length), i ≠ j → (ts[i]).hold.count s + (ts[j]).hold.count s ≤ cnt s ts
  | t :: ts, 0, 0, _, _, h => absurd rfl h
  | t :: ts, 0, j + 1, _, hj, _ => by
    have := cnt_one s ts j (by simpa using hj)
    simp [cnt]
    omega
  | t :: ts, i + 1, 0, hi, _, _ => by
    have := cnt_one s ts i (by simpa using hi)
    simp [cnt]
    omega
  | t :: ts, i + 1, j + 1, hi, hj, h => by
    have := cnt_two s ts i j (by simpa using hi) (by simpa using hj) (by omega)
    simp [cnt]
    omega
theorem cnt_take (s : Nat) : ∀ (ts : List Tk) (j : Nat) (hj : j < ts.length), cnt s (ts.take (j + 1)) = cnt s (ts.take j) + (ts[j]).hold.count s
  | t :: ts, 0, _ => by simp [cnt]
  | t :: ts, j + 1, hj => by
    have := cnt_take s ts j (by simpa using hj)
    simp [cnt]
    omega

/-- All that holds behind each step. -/
structure Wd (w wr : World) (K : Cf) (M G L : Nat) (m : MS) (tag : Nat) (F : List Nat) (cur : Array Value) (ts : List Tk) : Prop where
  mem : IsMem wr M G m
  top : Top K m.X tag F
  row : IsRow wr L cur
  sz : cur.size = ts.length * 5
  tk : ∀ i (hi : i < ts.length), TkOk wr w.heap.size (i * 5) K cur ts[i]
  inv : ∀ i (hi : i < ts.length), McInv K m.X tag (ts[i]).mc (ts[i]).la
  far : ∀ i (hi : i < ts.length), ∀ b ∈ (ts[i]).own, b ≠ M ∧ b ≠ G ∧ b ≠ L ∧ w.heap.size + 1 ≤ b
  nd : ∀ i (hi : i < ts.length), (ts[i]).own.Nodup
  apart : ∀ i j (hi : i < ts.length) (hj : j < ts.length), i ≠ j → ∀ b ∈ (ts[i]).own, b ∉ (ts[j]).own
  all : ∀ s, F.count s + cnt s ts = if s < K.S then 1 else 0
  cfg : IsCfg wr w.heap.size K.S K.a K.C K.D K.g K.k
  bel : Below w.heap.size w wr
  hM : w.heap.size + 1 ≤ M
  hG : w.heap.size + 1 ≤ G
  hL : w.heap.size + 1 ≤ L ∧ L ≠ M ∧ L ≠ G

theorem McW.chg {l : List Nat} {w w' : World} {K : Cf} {mc : Mc} (h : McW w K mc) (c : Chg l w w') (hn : ∀ b ∈ mc.blk, b ∉ l) : McW w' K mc := by
  cases mc with
  | idle => trivial
  | pop P p => exact IsPopS.chg h c (hn P (by simp [Mc.blk]))
  | push P q => exact IsPushS.chg h c (hn P (by simp [Mc.blk]))
theorem McW.lt {w : World} {K : Cf} {mc : Mc} (h : McW w K mc) : ∀ b ∈ mc.blk, b < w.heap.size := by
  intro b hb
  cases mc with
  | idle => simp [Mc.blk] at hb
  | pop P p => simp [Mc.blk] at hb; subst hb; exact IsPopS.lt h
  | push P q => simp [Mc.blk] at hb; subst hb; exact IsPushS.lt h

theorem TkOk.chg {l : List Nat} {w w' : World} {base o : Nat} {K : Cf} {cur cur' : Array Value} {t : Tk} (h : TkOk w base o K cur t) (c : Chg l w w') (hn : ∀ b ∈ t.own, b ∉ l) (hl : ∀ i ∈ l, base ≤ i) (hb : base ≤ w.heap.size) (hc : ∀ k, k < 5 → cur'[o + k]? = cur[o + k]?) : TkOk w' base o K cur' t :=
  ⟨(hc 0 (by omega)).trans h.c0, (hc 1 (by omega)).trans h.c1, (hc 2 (by omega)).trans h.c2, (hc 3 (by omega)).trans h.c3, (hc 4 (by omega)).trans h.c4,
   h.has.chg c (fun g hg => hn g (own_hv hg)), h.wk.chg c hl hb, h.wc, h.mc.chg c (fun b hb => hn b (by simp [Tk.own, hb]))⟩
theorem TkOk.own_lt {w : World} {base o : Nat} {K : Cf} {cur : Array Value} {t : Tk} (h : TkOk w base o K cur t) : ∀ b ∈ t.own, b < w.heap.size := by
  intro b hb
  rcases List.mem_append.1 hb with h1 | h1
  · exact h.has.lt (by simpa using h1)
  · exact h.mc.lt b h1

theorem Wd.below {w wr w1 : World} {K : Cf} {M G L : Nat} {m : MS} {tag : Nat} {F : List Nat} {cur : Array Value} {ts : List Tk} (h : Wd w wr K M G L m tag F cur ts) (b : Below wr.heap.size wr w1) : Wd w w1 K M G L m tag F cur ts :=
  ⟨h.mem.below b, h.top, h.row.below b, h.sz, fun i hi => (h.tk i hi).chg (l := []) (Chg.of_below b) (fun _ _ => by simp) (by simp) h.bel.size (fun _ _ => rfl), h.inv, h.far, h.nd, h.apart, h.all, h.cfg.below b, h.bel.trans (b.mono h.bel.size), h.hM, h.hG, h.hL⟩

theorem Wd.had {w wr : World} {K : Cf} {M G L : Nat} {m : MS} {tag : Nat} {F : List Nat} {cur : Array Value} {ts : List Tk} (h : Wd w wr K M G L m tag F cur ts) {i : Nat} (hi : i < ts.length) {s : Nat} (hs : s ∈ (ts[i]).hold) : s ∉ F ∧ s < K.S := by
  have h1 := cnt_one s ts i hi
  have h2 := h.all s
  have h3 : 0 < (ts[i]).hold.count s := List.count_pos_iff.2 hs
  by_cases hsS : s < K.S
  · rw [if_pos hsS] at h2
    exact ⟨fun hF => by have := List.count_pos_iff.2 hF; omega, hsS⟩
  · rw [if_neg hsS] at h2
    omega

theorem Wd.ask {w wr : World} {K : Cf} (hK : K.Ok) {M G L : Nat} {m : MS} {tag : Nat} {F : List Nat} {cur : Array Value} {ts : List Tk} (h : Wd w wr K M G L m tag F cur ts) (ht : 0 ≤ m.t ∧ m.t < 2305843009213693952) (htag : tag + 1 < 281474976710656) {i : Nat} (hi : i < ts.length) : Ask wr w.heap.size M G L (i * 5) K m tag F cur ts[i] := by
  refine ⟨hK, h.mem, h.top, ht, htag, h.row, h.hL.2, h.tk i hi, h.inv i hi, ⟨fun b hb => ?_, h.nd i hi⟩, fun s hs => h.had hi hs, ?_, ⟨h.bel.size, by have := h.hM; omega, by have := h.hG; omega, by have := h.hL; omega⟩⟩
  · have := h.far i hi b hb
    exact ⟨this.1, this.2.1, this.2.2.1, by omega⟩
  · have hn : (ts[i]).has.Nodup := List.nodup_iff_count.2 fun s => by
      have h1 := cnt_one s ts i hi
      have h2 := h.all s
      have h3 : (ts[i]).hold.count s = (ts[i]).has.count s + (ts[i]).mc.lay.count s := by simp [Tk.hold, List.count_append]
      split at h2 <;> omega
    have := nodup_len K.S _ hn (fun x hx => (h.had hi (by simp [Tk.hold, hx])).2)
    have := hK.s64
    omega

theorem Wd.step {w wr w' : World} {K : Cf} {M G L : Nat} {m m' : MS} {tag tag' : Nat} {F F' : List Nat} {cur cur' : Array Value} {ts : List Tk} {t' : Tk} (h : Wd w wr K M G L m tag F cur ts) {i : Nat} (hi : i < ts.length)
    (lf : Left wr w' w.heap.size M G L (i * 5) K m tag F cur ts[i] m' tag' F' cur' t') : Wd w w' K M G L m' tag' F' cur' (ts.set i t') := by
  have hln : ∀ b ∈ [M, G, L] ++ (ts[i]).own, w.heap.size + 1 ≤ b := fun b hb => by
    rcases List.mem_append.1 hb with h1 | h1
    · have a1 := h.hM; have a2 := h.hG; have a3 := h.hL
      simp at h1
      rcases h1 with rfl | rfl | rfl <;> omega
    · exact (h.far i hi b h1).2.2.2
  have hj : ∀ j (hj : j < ts.length), j ≠ i → ∀ b ∈ (ts[j]).own, b ∉ [M, G, L] ++ (ts[i]).own := fun j hj hne b hb hm => by
    rcases List.mem_append.1 hm with h1 | h1
    · have := h.far j hj b hb
      simp at h1
      omega
    · exact h.apart j i hj hi hne b hb h1
  refine ⟨lf.mem, lf.top, lf.row, by rw [lf.sz, h.sz]; simp, ?_, ?_, ?_, ?_, ?_, ?_, ?_, ?_, h.hM, h.hG, h.hL⟩
  · intro j hjl
    rw [List.length_set] at hjl
    by_cases e : i = j
    · subst e
      rw [List.getElem_set_self]
      exact lf.tk
    · rw [List.getElem_set_ne e]
      exact (h.tk j hjl).chg lf.ch (hj j hjl (Ne.symm e)) (fun b hb => by have := hln b hb; omega) h.bel.size (fun k hk => lf.far _ (by omega))
  · intro j hjl
    rw [List.length_set] at hjl
    by_cases e : i = j
    · subst e
      rw [List.getElem_set_self]
      exact lf.inv
    · rw [List.getElem_set_ne e]
      have hv := h.inv j hjl
      have hhl : ∀ s, s ∈ (ts[j]).hold → s ∉ (ts[i]).hold := fun s hs hs2 => by
        have h1 := cnt_two s ts i j hi hjl e
        have h2 := h.all s
        have h3 := List.count_pos_iff.2 hs
        have h4 := List.count_pos_iff.2 hs2
        split at h2 <;> omega
      cases hmc : (ts[j]).mc with
      | idle => trivial
      | pop P p =>
        rw [hmc] at hv
        exact ⟨hv.1, hv.2.1.other h.top lf.eff (fun s hs => (h.had hi hs).1), hv.2.2⟩
      | push P q =>
        rw [hmc] at hv
        exact ⟨hv.1, hv.2.1.other lf.eff (hhl q.sl (by simp [Tk.hold, hmc, Mc.lay])), hv.2.2⟩
  · intro j hjl b hb
    rw [List.length_set] at hjl
    by_cases e : i = j
    · subst e
      rw [List.getElem_set_self] at hb
      rcases lf.own b hb with h1 | h1
      · exact h.far i hi b h1
      · have a1 := h.mem.M_lt; have a2 := h.mem.G_lt; have a3 := h.row.lt; have a4 := h.cfg.lt
        omega
    · rw [List.getElem_set_ne e] at hb
      exact h.far j hjl b hb
  · intro j hjl
    rw [List.length_set] at hjl
    by_cases e : i = j
    · subst e
      rw [List.getElem_set_self]
      exact lf.nd
    · rw [List.getElem_set_ne e]
      exact h.nd j hjl
  · intro j k hjl hkl hne b hb hb2
    rw [List.length_set] at hjl hkl
    by_cases e : i = j
    · subst e
      rw [List.getElem_set_self] at hb
      rw [List.getElem_set_ne hne] at hb2
      rcases lf.own b hb with h1 | h1
      · exact h.apart i k hi hkl hne b h1 hb2
      · have := (h.tk k hkl).own_lt b hb2
        omega
    · rw [List.getElem_set_ne e] at hb
      by_cases e2 : i = k
      · subst e2
        rw [List.getElem_set_self] at hb2
        rcases lf.own b hb2 with h1 | h1
        · exact h.apart j i hjl hi (Ne.symm e) b hb h1
        · have := (h.tk j hjl).own_lt b hb
          omega
      · rw [List.getElem_set_ne e2] at hb2
        exact h.apart j k hjl hkl hne b hb hb2
  · intro s
    have h1 := h.all s
    have h2 := cnt_set s t' ts i hi
    have h3 := lf.perm.count_eq s
    rw [List.count_append, List.count_append] at h3
    omega
  · exact h.cfg.chg lf.ch (fun hm => by have := hln _ hm; omega)
  · exact lf.ch.below h.bel (fun b hb => by have := hln b hb; omega) (Nat.le_refl _)
end Go.Proofs.Ytcfallaekedmkaa
