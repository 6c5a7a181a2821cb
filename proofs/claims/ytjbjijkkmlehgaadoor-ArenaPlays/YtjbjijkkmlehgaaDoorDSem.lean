/- What a step of a Shade does to the words. -/
import Derived.Test.YtjbjijkkmlehgaaDoorDHeap
namespace Go.Proofs.YtjbjijkkmlehgaaDoor
open Go.RowKit
open Mm (IsMem MS touched Only zeroMS)
open Hh (WT okW whiteH wordOf Hr blackN usedK)

/-- A memory of these words, with so many touches. -/
def MemX (w : World) (M G : Nat) (X : List Nat) (T : Int) : Prop := ∃ m, IsMem w M G m ∧ m.X = X ∧ m.t = T
theorem MemX.below {w w' : World} {M G : Nat} {X : List Nat} {T : Int} (h : MemX w M G X T) (b : Below w.heap.size w w') : MemX w' M G X T := by
  obtain ⟨m, h1, h2⟩ := h
  exact ⟨m, h1.below b, h2⟩
theorem MemX.chg {L : List Nat} {w w' : World} {M G : Nat} {X : List Nat} {T : Int} (h : MemX w M G X T) (b : Chg L w w') (h1 : M ∉ L) (h2 : G ∉ L) : MemX w' M G X T := by
  obtain ⟨m, h3, h4⟩ := h
  exact ⟨m, IsMem.chg h3 b h1 h2, h4⟩
theorem MemX.lt {w : World} {M G : Nat} {X : List Nat} {T : Int} (h : MemX w M G X T) : M < w.heap.size ∧ G < w.heap.size ∧ M ≠ G := by
  obtain ⟨m, h1, _⟩ := h
  exact ⟨h1.M_lt, h1.G_lt, h1.ne⟩
theorem MemX.fits {w : World} {M G : Nat} {X : List Nat} {T : Int} (h : MemX w M G X T) (i : Nat) : X.getD i 0 < 18446744073709551616 := by
  obtain ⟨m, h1, h2, _⟩ := h
  rw [← h2]
  exact h1.word_lt i
theorem touchesX {w : World} {M G : Nat} {X : List Nat} {T : Int} (h : MemX w M G X T) : Calls Tryd.prog 41 #[.pointer (some ⟨M, 0, none⟩)] w fun e w' => e = .returned (.int .i64 T) ∧ w = w' := by
  obtain ⟨m, hm, _, ht⟩ := h
  rw [← ht]
  exact Mm.touches_any hm
/-- What is known of the world within a law. -/
structure Ds (w wr : World) (K : Cf) (M G : Nat) (X : List Nat) (T : Int) : Prop where
  mem : MemX wr M G X T
  cfg : IsCfg wr w.heap.size K.S K.a K.C K.D K.g K.k
  bel : Below w.heap.size w wr
  wt : WT wr
  hM : w.heap.size + 1 ≤ M
  hG : w.heap.size + 1 ≤ G
theorem Ds.below {w wr w1 : World} {K : Cf} {M G : Nat} {X : List Nat} {T : Int} (h : Ds w wr K M G X T) (b : Below wr.heap.size wr w1) : Ds w w1 K M G X T :=
  ⟨h.mem.below b, h.cfg.below b, h.bel.trans (b.mono h.bel.size), h.wt.below b, h.hM, h.hG⟩
theorem Ds.drew {w wr : World} {K : Cf} {M G : Nat} {X : List Nat} {T : Int} (h : Ds w wr K M G X T) : Ds w wr.drew K M G X T := h.below (Below.refl _ _).drew
theorem Ds.chg {w wr w1 : World} {K : Cf} {M G P : Nat} {X X' : List Nat} {T T' : Int} (h : Ds w wr K M G X T) (b : Chg [P, M, G] wr w1) (hP : w.heap.size + 1 ≤ P) (hm : MemX w1 M G X' T') (hw : WT w1) : Ds w w1 K M G X' T' :=
  ⟨hm, h.cfg.chg b (by have := h.hM; have := h.hG; simp; omega), b.below h.bel (by have := h.hM; have := h.hG; simp; omega) (Nat.le_refl _), hw, h.hM, h.hG⟩
theorem Ds.lt {w wr : World} {K : Cf} {M G : Nat} {X : List Nat} {T : Int} (h : Ds w wr K M G X T) : w.heap.size + 1 ≤ wr.heap.size := h.cfg.lt
end Go.Proofs.YtjbjijkkmlehgaaDoor
