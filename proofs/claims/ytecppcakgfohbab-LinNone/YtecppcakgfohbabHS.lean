/- A row of numbers that is sorted in its place: what may change, and what its cells hold. -/
import Derived.Test.YtecppcakgfohbabM0
import Derived.Test.YtecppcakgfohbabHR
import Derived.Sort.WalkA
import Derived.Deep.LoopGhost
import Derived.BigRegion
namespace Go.Proofs.Ytecppcakgfohbab
open Go.RowKit Go.Sort

def nv (x : Nat) : Value := .int .i64 (x : Int)
/-- The world since w0: the block B holds these numbers from off on; else only what came meanwhile. -/
structure SR (w0 : World) (B off n : Nat) (d : Array Nat) (W : World) : Prop where
  os : W.os = w0.os
  tape : W.tape = w0.tape
  output : W.output = w0.output
  size : w0.heap.size ≤ W.heap.size
  lt : B < w0.heap.size
  block : ∀ k, k < w0.heap.size → k ≠ B → W.heap[k]? = w0.heap[k]?
  row : ∃ cur, W.heap[B]? = some (.cells cur 3 (0, 0)) ∧ ∀ i, i < n → cur[off + i]? = some (nv d[i]!)
  len : d.size = n
  rg : ∀ i, i < n → d[i]! < n
theorem SR.below {w0 W W' : World} {B off n : Nat} {d : Array Nat} (h : SR w0 B off n d W) (b : Below W.heap.size W W') : SR w0 B off n d W' := by
  obtain ⟨cur, h1, h2⟩ := h.row
  have hB := lt_of_block h1
  exact ⟨b.os.trans h.os, b.tape.trans h.tape, b.output.trans h.output, Nat.le_trans h.size b.size, h.lt, fun k hk hn => (b.block k (Nat.lt_of_lt_of_le hk h.size)).trans (h.block k hk hn), ⟨cur, (b.block B hB).trans h1, h2⟩, h.len, h.rg⟩
theorem SR.drew {w0 W : World} {B off n : Nat} {d : Array Nat} (h : SR w0 B off n d W) : SR w0 B off n d W.drew := h.below (Below.refl _ _).drew
theorem SR.cell {w0 W : World} {B off n : Nat} {d : Array Nat} (h : SR w0 B off n d W) (i : Nat) (hi : i < n) : W.cell? ⟨B, off + i, none⟩ = some (nv d[i]!) := by
  obtain ⟨cur, h1, h2⟩ := h.row
  simp only [World.cell?, h1]
  exact h2 i hi
theorem SR.frozen {w0 W : World} {B off n : Nat} {d : Array Nat} (h : SR w0 B off n d W) (i : Nat) : W.frozen? ⟨B, off + i, none⟩ = false := by
  obtain ⟨cur, h1, h2⟩ := h.row
  simp only [World.frozen?, h1]
  simp
theorem SR.put {w0 W : World} {B off n : Nat} {d : Array Nat} (h : SR w0 B off n d W) (i x : Nat) (hi : i < n) (hx : x < n) : SR w0 B off n (d.setIfInBounds i x) (W.setCell ⟨B, off + i, none⟩ (nv x)) := by
  obtain ⟨cur, h1, h2⟩ := h.row
  have hsz : (W.setCell ⟨B, off + i, none⟩ (nv x)).heap.size = W.heap.size := by simp [World.setCell]
  have hd := h.len
  refine ⟨h.os, h.tape, h.output, by rw [hsz]; exact h.size, h.lt, fun k hk hn => ?_, ⟨cur.setIfInBounds (off + i) (nv x), ?_, fun k hk => ?_⟩, by simp [h.len], fun k hk => ?_⟩
  · rw [Below.heap_setCell _ _ _ _ hn]; exact h.block k hk hn
  · simp only [World.setCell, Array.getElem?_modify, if_true, h1]; simp
  · by_cases e : k = i
    · subst e
      rw [getElem!_set_same _ _ _ (by omega)]
      have := (Array.getElem?_eq_some_iff.1 (h2 k hk)).1
      simp [this]
    · rw [getElem!_set_other _ _ _ _ e]
      rw [Array.getElem?_setIfInBounds, if_neg (by omega)]
      exact h2 k hk
  · by_cases e : k = i
    · subst e; rw [getElem!_set_same _ _ _ (by omega)]; exact hx
    · rw [getElem!_set_other _ _ _ _ e]; exact h.rg k hk
theorem SR.swp {w0 W : World} {B off n : Nat} {d : Array Nat} (h : SR w0 B off n d W) (i j : Nat) (hi : i < n) (hj : j < n) :
    SR w0 B off n (swp d i j) ((W.setCell ⟨B, off + i, none⟩ (nv d[j]!)).setCell ⟨B, off + j, none⟩ (nv d[i]!)).drew :=
  ((h.put i d[j]! hi (h.rg j hj)).put j d[i]! hj (h.rg i hi)).drew
theorem SR.c2 {w0 W : World} {B off n : Nat} {d : Array Nat} (h : SR w0 B off n d W) (i j : Nat) (hi : i < n) (hj : j < n) (x : Nat) (hx : x < n) :
    ∃ u, (W.setCell ⟨B, off + i, none⟩ (nv x)).cell? ⟨B, off + j, none⟩ = some (nv u) := ⟨_, (h.put i x hi hx).cell j hj⟩
theorem nv_out (x : Nat) : nv x = .int .i64 (x : Int) := rfl
/-- What is asked of a comparison (the closure that sorted hands on, with what it captures). -/
def CmpW (p q : Value) (cf : Nat → Nat → Int) (w0 : World) (B off n : Nat) : Prop :=
  ∀ W d, SR w0 B off n d W → ∀ x y : Nat, x < n → y < n → Calls Try.prog 47 #[.int .i64 (x : Int), .int .i64 (y : Int), p, q] W fun e w' => e = .returned (.int .i64 (cf x y)) ∧ Below W.heap.size W w'
def ltN (cf : Nat → Nat → Int) (x y : Nat) : Bool := decide (cf x y < 0)
theorem CmpW.at {p q : Value} {cf : Nat → Nat → Int} {w0 W : World} {B off n : Nat} {d : Array Nat} (h : CmpW p q cf w0 B off n) (s : SR w0 B off n d W) {x y : Nat} (hx : x < n) (hy : y < n) {w' : World} (b : Below W.heap.size W w') :
    Calls Try.prog 47 #[.int .i64 (x : Int), .int .i64 (y : Int), p, q] w' fun e w'' => e = .returned (.int .i64 (cf x y)) ∧ Below W.heap.size W w'' :=
  (h w' d (s.below b) x y hx hy).mono fun _ _ ⟨he, hb⟩ => ⟨he, seq_below b hb⟩
end Go.Proofs.Ytecppcakgfohbab
