/- What mark's names knows of the world. -/
import Derived.Test.YteechgmjaagbmaaDoorCIn
import Derived.Test.YteechgmjaagbmaaDoorCKj
namespace Go.Proofs.YteechgmjaagbmaaDoor
open Go.RowKit
open Mm (IsMem MS touched Only IsWords)
open Hh (WT okW wordOf IsHd)

/-- Blocks that names made: the list's variable (u in it), the config, the words' variable, the slot; an own list v of F. -/
structure Nv (w wr : World) (K : Cf) (bl bc bw bs b off cap s : Nat) (u v : Value) (F : List Int) : Prop where
  cfg : IsCfg wr bc K.S K.a K.C K.D K.g K.k
  ws : wr.heap[bw]? = some (.cells #[.slice (some ⟨b, off, none⟩) K.N cap] 43 (0, 0))
  sl : wr.heap[bs]? = some (.cells #[.int .i64 (s : Nat)] 3 (0, 0))
  ll : wr.heap[bl]? = some (.cells #[u] 77 (0, 0))
  own : IsZ wr v F
  og : ∀ g, v.ownBlock = some g → w.heap.size ≤ g ∧ g ≠ bs
  bel : Below w.heap.size w wr
  nb : w.heap.size ≤ bl
theorem Nv.below {w wr w' : World} {K : Cf} {bl bc bw bs b off cap s : Nat} {u v : Value} {F : List Int} (h : Nv w wr K bl bc bw bs b off cap s u v F) (k : Below wr.heap.size wr w') : Nv w w' K bl bc bw bs b off cap s u v F :=
  ⟨h.cfg.below k, (k.block _ (lt_of_block h.ws)).trans h.ws, (k.block _ (lt_of_block h.sl)).trans h.sl, (k.block _ (lt_of_block h.ll)).trans h.ll, h.own.below k, h.og, seq_below h.bel k, h.nb⟩
theorem IsZ.apart {w : World} {v : Value} {F : List Int} (h : IsZ w v F) {i : Nat} {c : Array Value} {t : TypeId} (hi : w.heap[i]? = some (.cells c t (0, 0))) (ht : t ≠ 3) : v.ownBlock ≠ some i := by
  intro e
  rcases h with ⟨rfl, _⟩ | ⟨g, off, cap, cur, rfl, hh, _⟩
  · cases e
  · obtain rfl : g = i := by simpa [Value.ownBlock] using e
    rw [hh] at hi
    simp at hi
    exact ht hi.2.symm
theorem below_grown {B : Nat} {w wr w2 : World} {g : Option Nat} (h : Below B w wr) (k : wr.grownBy w2 g) (hg : ∀ x, g = some x → B ≤ x) (hB : B ≤ wr.heap.size) : Below B w w2 :=
  ⟨k.os.trans h.os, k.tape.trans h.tape, k.output.trans h.output, Nat.le_trans h.size k.size, fun i hi => (k.block i (by omega) (fun e => by have := hg i e.symm; omega)).trans (h.block i hi)⟩
theorem Nv.grow {w wr w2 : World} {K : Cf} {bl bc bw bs b off cap s : Nat} {u v v' : Value} {F F' : List Int} (h : Nv w wr K bl bc bw bs b off cap s u v F) (hI : IsZ w2 v' F') (k : wr.grownBy w2 v.ownBlock) (hp : v'.ownBlock = v.ownBlock ∨ ∃ g, v'.ownBlock = some g ∧ wr.heap.size ≤ g) : Nv w w2 K bl bc bw bs b off cap s u v' F' := by
  have kb : ∀ {i : Nat} {c : Array Value} {t : TypeId}, wr.heap[i]? = some (.cells c t (0, 0)) → v.ownBlock ≠ some i → w2.heap[i]? = some (.cells c t (0, 0)) := fun hi hn => (k.block _ (lt_of_block hi) (fun e => hn e.symm)).trans hi
  refine ⟨kb h.cfg (h.own.apart h.cfg (by decide)), kb h.ws (h.own.apart h.ws (by decide)), kb h.sl (fun e => (h.og _ e).2 rfl), kb h.ll (h.own.apart h.ll (by decide)), hI, ?_, below_grown h.bel k (fun x hx => (h.og x hx).1) h.bel.size, h.nb⟩
  intro g hg
  rcases hp with hp | ⟨g', hp, hl⟩
  · exact h.og g (hp ▸ hg)
  · obtain rfl : g' = g := by rw [hp] at hg; simpa using hg
    have := h.bel.size
    have := lt_of_block h.sl
    exact ⟨by omega, by omega⟩
theorem Nv.put {w wr : World} {K : Cf} {bl bc bw bs b off cap s : Nat} {u v : Value} {F : List Int} (h : Nv w wr K bl bc bw bs b off cap s u v F) : Nv w (wr.setCell ⟨bl, 0, none⟩ v) K bl bc bw bs b off cap s v v F := by
  have kb : ∀ {i : Nat} {c : Array Value} {t : TypeId}, wr.heap[i]? = some (.cells c t (0, 0)) → t ≠ 77 → (wr.setCell ⟨bl, 0, none⟩ v).heap[i]? = some (.cells c t (0, 0)) := fun {i c t} hi hn => by
    rw [Below.heap_setCell _ _ _ _ (by intro e; have e2 : i = bl := e; subst e2; rw [h.ll] at hi; simp at hi; exact hn hi.2.symm)]
    exact hi
  refine ⟨kb h.cfg (by decide), kb h.ws (by decide), kb h.sl (by decide), ?_, ?_, h.og, h.bel.setCell h.nb _, h.nb⟩
  · have := Mm.heap_setCell_at (o := 0) h.ll v
    simpa using this
  · refine h.own.kept fun g hg => Below.heap_setCell _ _ _ _ ?_
    intro e
    have e2 : g = bl := e
    subst e2
    exact h.own.apart h.ll (by decide) hg
theorem Nv.l {w wr : World} {K : Cf} {bl bc bw bs b off cap s : Nat} {u v : Value} {F : List Int} (h : Nv w wr K bl bc bw bs b off cap s u v F) : wr.cell? ⟨bl, 0, none⟩ = some u ∧ wr.frozen? ⟨bl, 0, none⟩ = false := ⟨by simp [World.cell?, h.ll], by simp [World.frozen?, h.ll]⟩
theorem Nv.rd {w wr : World} {K : Cf} {bl bc bw bs b off cap s : Nat} {u v : Value} {F : List Int} (h : Nv w wr K bl bc bw bs b off cap s u v F) {L W : Nat} (hR : ∀ w', Below w.heap.size w w' → w'.cell? ⟨b, off + L, none⟩ = some (.int .u64 (W : Nat))) :
    wr.cell? ⟨bc, 0, none⟩ = some (.int .i64 (K.S : Nat)) ∧ wr.cell? ⟨bc, 1, none⟩ = some (.int .i64 K.a) ∧ wr.cell? ⟨bc, 2, none⟩ = some (.int .i64 (K.C : Nat)) ∧ wr.cell? ⟨bc, 3, none⟩ = some (.int .i64 (K.D : Nat)) ∧ wr.cell? ⟨bc, 4, none⟩ = some (.int .i64 K.g) ∧ wr.cell? ⟨bc, 5, none⟩ = some (.int .i64 K.k) ∧ wr.cell? ⟨bw, 0, none⟩ = some (.slice (some ⟨b, off, none⟩) K.N cap) ∧ wr.cell? ⟨bs, 0, none⟩ = some (.int .i64 (s : Nat)) ∧ wr.cell? ⟨b, off + L, none⟩ = some (.int .u64 (W : Nat)) := by
  obtain ⟨h0, h1, h2, h3, h4, h5⟩ := h.cfg.cells
  exact ⟨h0, h1, h2, h3, h4, h5, by simp [World.cell?, h.ws], by simp [World.cell?, h.sl], hR wr h.bel⟩
end Go.Proofs.YteechgmjaagbmaaDoor
