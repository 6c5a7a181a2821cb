/- What a step of a Shade does to the words. -/
import Derived.Test.YtnegdabcjnhpdaaGreatDoorDStep
namespace Go.Proofs.YtnegdabcjnhpdaaGreatDoor
open Go.RowKit
open Mm (IsMem MS touched Only zeroMS)
open Hh (WT okW whiteH wordOf Hr blackN usedK)

/-- A memory of these words, with so many touches. -/
def MemX (w : World) (M G : Nat) (X : List Nat) (T : Int) : Prop := ∃ m, IsMem w M G m ∧ m.X = X ∧ m.t = T
theorem MemX.below {w w' : World} {M G : Nat} {X : List Nat} {T : Int} (h : MemX w M G X T) (b : Below w.heap.size w w') : MemX w' M G X T := by
  obtain ⟨m, h1, h2⟩ := h
  exact ⟨m, h1.below b, h2⟩
theorem MemX.chg {L : List Nat} {w w' : World} {M G : Nat} {X : List Nat} {T : Int} (h : MemX w M G X T) (b : Chg L w w') (h1 : M ∉ L) (h2 : G ∉ L) : MemX w' M G X T := by
  obtain ⟨m, h3, h4⟩ := h
  exact ⟨m, IsMem.chg h3 b h1 h2, h4⟩
theorem MemX.lt {w : World} {M G : Nat} {X : List Nat} {T : Int} (h : MemX w M G X T) : M < w.heap.size ∧ G < w.heap.size ∧ M ≠ G := by
  obtain ⟨m, h1, _⟩ := h
  exact ⟨h1.M_lt, h1.G_lt, h1.ne⟩
theorem MemX.fits {w : World} {M G : Nat} {X : List Nat} {T : Int} (h : MemX w M G X T) (i : Nat) : X.getD i 0 < 18446744073709551616 := by
  obtain ⟨m, h1, h2, _⟩ := h
  rw [← h2]
  exact h1.word_lt i
theorem touchesX {w : World} {M G : Nat} {X : List Nat} {T : Int} (h : MemX w M G X T) : Calls Tryz.prog 30 #[.pointer (some ⟨M, 0, none⟩)] w fun e w' => e = .returned (.int .i64 T) ∧ w = w' := by
  obtain ⟨m, hm, _, ht⟩ := h
  rw [← ht]
  exact Mm.touches_any hm
theorem ds_0y {w : World} {M G P : Nat} {X : List Nat} {T : Int} {gw : Bool} {h e was nw : Nat} (hm : MemX w M G X T) (hp : IsShd w P gw (h : Nat) e 0 was nw) (hw : WT w) (h1 : P ≠ M) (h2 : P ≠ G) (ht : 0 ≤ T ∧ T < 4611686018427387904) (hX : h < X.length) (he : e < 18446744073709551616) {W : Nat} (hW : X.getD h 0 = W) (hc : canS W e = true) :
    Calls Tryz.prog 58 #[.pointer (some ⟨P, 0, none⟩), .pointer (some ⟨M, 0, none⟩)] w fun r w' => r = .returned (.bool false) ∧ MemX w' M G X (T + 1) ∧ IsShd w' P gw (h : Nat) e 1 W (shN W e) ∧ WT w' ∧ Chg [P, M, G] w w' := by
  obtain ⟨m, hm, rfl, rfl⟩ := hm
  have c := shd_0 hm hp hw h1 h2 hX ht he
  rw [hW, hc] at c
  exact c.mono fun r w' ⟨hr, hm', hp', hw', hc'⟩ => ⟨hr, ⟨_, hm', by rw [← hW]; exact touched_X m 1 h, rfl⟩, hp', hw', hc'⟩
theorem ds_0n {w : World} {M G P : Nat} {X : List Nat} {T : Int} {gw : Bool} {h e was nw : Nat} (hm : MemX w M G X T) (hp : IsShd w P gw (h : Nat) e 0 was nw) (hw : WT w) (h1 : P ≠ M) (h2 : P ≠ G) (ht : 0 ≤ T ∧ T < 4611686018427387904) (hX : h < X.length) (he : e < 18446744073709551616) {W : Nat} (hW : X.getD h 0 = W) (hc : canS W e = false) :
    Calls Tryz.prog 58 #[.pointer (some ⟨P, 0, none⟩), .pointer (some ⟨M, 0, none⟩)] w fun r w' => r = .returned (.bool true) ∧ MemX w' M G X (T + 1) ∧ IsShd w' P gw (h : Nat) e 4 W W ∧ WT w' ∧ Chg [P, M, G] w w' := by
  obtain ⟨m, hm, rfl, rfl⟩ := hm
  have c := shd_0 hm hp hw h1 h2 hX ht he
  rw [hW, hc] at c
  exact c.mono fun r w' ⟨hr, hm', hp', hw', hc'⟩ => ⟨hr, ⟨_, hm', by rw [← hW]; exact touched_X m 1 h, rfl⟩, hp', hw', hc'⟩
theorem ds_1 {w : World} {M G P : Nat} {X : List Nat} {T : Int} {gw : Bool} {h e was nw : Nat} (hm : MemX w M G X T) (hp : IsShd w P gw (h : Nat) e 1 was nw) (hw : WT w) (h1 : P ≠ M) (h2 : P ≠ G) (ht : 0 ≤ T ∧ T < 4611686018427387904) (hX : 2 < X.length) {X' : List Nat} (hX' : X.set 2 (Mm.sumW (X.getD 2 0) 1) = X') :
    Calls Tryz.prog 58 #[.pointer (some ⟨P, 0, none⟩), .pointer (some ⟨M, 0, none⟩)] w fun r w' => r = .returned (.bool false) ∧ MemX w' M G X' (T + 1) ∧ IsShd w' P gw (h : Nat) e 2 was nw ∧ WT w' ∧ Chg [P, M, G] w w' := by
  obtain ⟨m, hm, rfl, rfl⟩ := hm
  exact (shd_1 hm hp hw h1 h2 hX ht).mono fun r w' ⟨hr, hm', hp', hw', hc'⟩ => ⟨hr, ⟨_, hm', hX', rfl⟩, hp', hw', hc'⟩
theorem ds_2y {w : World} {M G P : Nat} {X : List Nat} {T : Int} {gw : Bool} {h e was nw : Nat} (hm : MemX w M G X T) (hp : IsShd w P gw (h : Nat) e 2 was nw) (hw : WT w) (h1 : P ≠ M) (h2 : P ≠ G) (ht : 0 ≤ T ∧ T < 4611686018427387904) (hX : h < X.length) (hW : X.getD h 0 = was) (hn : nw < 18446744073709551616) {X' : List Nat} (hX' : X.set h nw = X') :
    Calls Tryz.prog 58 #[.pointer (some ⟨P, 0, none⟩), .pointer (some ⟨M, 0, none⟩)] w fun r w' => r = .returned (.bool true) ∧ MemX w' M G X' (T + 1) ∧ IsShd w' P true (h : Nat) e 4 was nw ∧ WT w' ∧ Chg [P, M, G] w w' := by
  obtain ⟨m, hm, rfl, rfl⟩ := hm
  exact (shd_2y hm hp hw h1 h2 hX ht hW hn).mono fun r w' ⟨hr, hm', hp', hw', hc'⟩ => ⟨hr, ⟨_, hm', hX', rfl⟩, hp', hw', hc'⟩
theorem ds_2n {w : World} {M G P : Nat} {X : List Nat} {T : Int} {gw : Bool} {h e was nw : Nat} (hm : MemX w M G X T) (hp : IsShd w P gw (h : Nat) e 2 was nw) (hw : WT w) (h1 : P ≠ M) (h2 : P ≠ G) (ht : 0 ≤ T ∧ T < 4611686018427387904) (hX : h < X.length) {W : Nat} (hW : X.getD h 0 = W) (hne : W ≠ was) :
    Calls Tryz.prog 58 #[.pointer (some ⟨P, 0, none⟩), .pointer (some ⟨M, 0, none⟩)] w fun r w' => r = .returned (.bool false) ∧ MemX w' M G X (T + 1) ∧ IsShd w' P gw (h : Nat) e 3 was nw ∧ WT w' ∧ Chg [P, M, G] w w' := by
  obtain ⟨m, hm, rfl, rfl⟩ := hm
  exact (shd_2n hm hp hw h1 h2 hX ht hW hne).mono fun r w' ⟨hr, hm', hp', hw', hc'⟩ => ⟨hr, ⟨_, hm', by rw [← hW]; exact touched_X m 3 h, rfl⟩, hp', hw', hc'⟩
theorem ds_3 {w : World} {M G P : Nat} {X : List Nat} {T : Int} {gw : Bool} {h e was nw : Nat} (hm : MemX w M G X T) (hp : IsShd w P gw (h : Nat) e 3 was nw) (hw : WT w) (h1 : P ≠ M) (h2 : P ≠ G) (ht : 0 ≤ T ∧ T < 4611686018427387904) (hX : 2 < X.length) {X' : List Nat} (hX' : X.set 2 (Mm.sumW (X.getD 2 0) 18446744073709551615) = X') :
    Calls Tryz.prog 58 #[.pointer (some ⟨P, 0, none⟩), .pointer (some ⟨M, 0, none⟩)] w fun r w' => r = .returned (.bool false) ∧ MemX w' M G X' (T + 1) ∧ IsShd w' P gw (h : Nat) e 0 was nw ∧ WT w' ∧ Chg [P, M, G] w w' := by
  obtain ⟨m, hm, rfl, rfl⟩ := hm
  exact (shd_3 hm hp hw h1 h2 hX ht).mono fun r w' ⟨hr, hm', hp', hw', hc'⟩ => ⟨hr, ⟨_, hm', hX', rfl⟩, hp', hw', hc'⟩

/-- What is known of the world within a law. -/
structure Ds (w wr : World) (K : Cf) (M G : Nat) (X : List Nat) (T : Int) : Prop where
  mem : MemX wr M G X T
  cfg : IsCfg wr w.heap.size K.S K.a K.C K.D K.g K.k
  bel : Below w.heap.size w wr
  wt : WT wr
  hM : w.heap.size + 1 ≤ M
  hG : w.heap.size + 1 ≤ G
theorem Ds.below {w wr w1 : World} {K : Cf} {M G : Nat} {X : List Nat} {T : Int} (h : Ds w wr K M G X T) (b : Below wr.heap.size wr w1) : Ds w w1 K M G X T :=
  ⟨h.mem.below b, h.cfg.below b, h.bel.trans (b.mono h.bel.size), h.wt.below b, h.hM, h.hG⟩
theorem Ds.drew {w wr : World} {K : Cf} {M G : Nat} {X : List Nat} {T : Int} (h : Ds w wr K M G X T) : Ds w wr.drew K M G X T := h.below (Below.refl _ _).drew
theorem Ds.chg {w wr w1 : World} {K : Cf} {M G P : Nat} {X X' : List Nat} {T T' : Int} (h : Ds w wr K M G X T) (b : Chg [P, M, G] wr w1) (hP : w.heap.size + 1 ≤ P) (hm : MemX w1 M G X' T') (hw : WT w1) : Ds w w1 K M G X' T' :=
  ⟨hm, h.cfg.chg b (by have := h.hM; have := h.hG; simp; omega), b.below h.bel (by have := h.hM; have := h.hG; simp; omega) (Nat.le_refl _), hw, h.hM, h.hG⟩
theorem Ds.lt {w wr : World} {K : Cf} {M G : Nat} {X : List Nat} {T : Int} (h : Ds w wr K M G X T) : w.heap.size + 1 ≤ wr.heap.size := h.cfg.lt
end Go.Proofs.YtnegdabcjnhpdaaGreatDoor
