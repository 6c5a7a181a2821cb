/- mark's roots. -/
import Derived.Test.YteechgmjaagbmaaDoorCNc
namespace Go.Proofs.YteechgmjaagbmaaDoor
open Go.RowKit
open Mm (IsMem MS touched Only IsWords)
open Hh (WT okW wordOf IsHd)

/-- What roots knows of the world: its config in a block, an own list. -/
structure Rv (w wr : World) (K : Cf) (bc : Nat) (v : Value) (F : List Int) : Prop where
  cfg : IsCfg wr bc K.S K.a K.C K.D K.g K.k
  own : IsZ wr v F
  og : ∀ g, v.ownBlock = some g → w.heap.size ≤ g
  bel : Below w.heap.size w wr
theorem Rv.below {w wr w' : World} {K : Cf} {bc : Nat} {v : Value} {F : List Int} (h : Rv w wr K bc v F) (k : Below wr.heap.size wr w') : Rv w w' K bc v F := ⟨h.cfg.below k, h.own.below k, h.og, seq_below h.bel k⟩
theorem Rv.grow {w wr w2 : World} {K : Cf} {bc : Nat} {v v' : Value} {F F' : List Int} (h : Rv w wr K bc v F) (hI : IsZ w2 v' F') (k : wr.grownBy w2 v.ownBlock) (hp : v'.ownBlock = v.ownBlock ∨ ∃ g, v'.ownBlock = some g ∧ wr.heap.size ≤ g) : Rv w w2 K bc v' F' := by
  refine ⟨(k.block _ (lt_of_block h.cfg) (fun e => h.own.apart h.cfg (by decide) e.symm)).trans h.cfg, hI, ?_, below_grown h.bel k (fun x hx => h.og x hx) h.bel.size⟩
  intro g hg
  rcases hp with hp | ⟨g', hp, hl⟩
  · exact h.og g (hp ▸ hg)
  · obtain rfl : g' = g := by rw [hp] at hg; simpa using hg
    have := h.bel.size
    omega
theorem Rv.rd {w wr : World} {K : Cf} {bc b off : Nat} {v : Value} {F : List Int} (h : Rv w wr K bc v F) {L W : Nat} (hR : ∀ w', Below w.heap.size w w' → w'.cell? ⟨b, off + L, none⟩ = some (.int .u64 (W : Nat))) : wr.cell? ⟨bc, 0, none⟩ = some (.int .i64 (K.S : Nat)) ∧ wr.cell? ⟨bc, 1, none⟩ = some (.int .i64 K.a) ∧ wr.cell? ⟨bc, 2, none⟩ = some (.int .i64 (K.C : Nat)) ∧ wr.cell? ⟨bc, 3, none⟩ = some (.int .i64 (K.D : Nat)) ∧ wr.cell? ⟨bc, 4, none⟩ = some (.int .i64 K.g) ∧ wr.cell? ⟨bc, 5, none⟩ = some (.int .i64 K.k) ∧ wr.cell? ⟨b, off + L, none⟩ = some (.int .u64 (W : Nat)) := by
  obtain ⟨h0, h1, h2, h3, h4, h5⟩ := h.cfg.cells
  exact ⟨h0, h1, h2, h3, h4, h5, hR wr h.bel⟩
/-- What roots tells. -/
def enL (K : Cf) (X : List Nat) (k n : Nat) : List Int := (List.range n).map fun i => K.nm (X.getD (K.en k i) 0 % 4294967296)
def rtL (K : Cf) (X : List Nat) : Nat → List Int
  | 0 => []
  | k + 1 => rtL K X k ++ enL K X k K.D ++ [K.nm (X.getD (K.st k) 0)]
theorem enL_succ (K : Cf) (X : List Nat) (k n : Nat) : enL K X k n ++ [K.nm (X.getD (K.en k n) 0 % 4294967296)] = enL K X k (n + 1) := by simp [enL, List.range_succ]
theorem enL_len (K : Cf) (X : List Nat) (k n : Nat) : (enL K X k n).length = n := by simp [enL]
theorem rtL_len (K : Cf) (X : List Nat) : ∀ k, (rtL K X k).length = k * (K.D + 1)
  | 0 => by simp [rtL]
  | k + 1 => by simp [rtL, rtL_len K X k, enL_len, Nat.succ_mul]
end Go.Proofs.YteechgmjaagbmaaDoor
