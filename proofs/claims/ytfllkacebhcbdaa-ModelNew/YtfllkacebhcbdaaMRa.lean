/- The reference's states of layer 17: what is read: Node, Held, Fresh. -/
import Derived.Test.YtfllkacebhcbdaaM0
namespace Go.Proofs.Ytfllkacebhcbdaa
open Go.RowKit

/-- A state's cells. -/
structure Sc where
  s : Int
  a : Int
  c : Int
  d : Int
  g : Int
  k : Int
  aF : Option Addr
  nF : Nat
  cF : Nat
  aH : Option Addr
  nH : Nat
  cH : Nat
  aW : Option Addr
  nW : Nat
  cW : Nat
  aM : Option Addr
  nM : Nat
  cM : Nat
  aG : Option Addr
  nG : Nat
  cG : Nat
abbrev Sc.v (S : Sc) : Array Value := #[.int .i64 S.s, .int .i64 S.a, .int .i64 S.c, .int .i64 S.d, .int .i64 S.g, .int .i64 S.k, .slice S.aF S.nF S.cF, .slice S.aH S.nH S.cH, .slice S.aW S.nW S.cW, .slice S.aM S.nM S.cM, .slice S.aG S.nG S.cG]
/-- A hold: whose, by which handle, of which node. -/
structure Hl where
  c : Int
  h : Nat
  n : Int
/-- Holds in a slice that is read. -/
def RdHl (FL : Nat → Prop) (w : World) (ad : Option Addr) (L : List Hl) : Prop := ∀ i x, L[i]? = some x → ∃ b off, ad = some ⟨b, off, none⟩ ∧ (b < w.heap.size ∧ ¬ FL b) ∧ w.cell? ⟨b, off + i * 3, none⟩ = some (.int .i64 x.c) ∧ w.cell? ⟨b, off + i * 3 + 1, none⟩ = some (.int .u64 (x.h : Nat)) ∧ w.cell? ⟨b, off + i * 3 + 2, none⟩ = some (.int .i64 x.n)
theorem RdHl.below {FL : Nat → Prop} {w w' : World} {ad : Option Addr} {L : List Hl} (h : RdHl FL w ad L) (b : Below w.heap.size w w') : RdHl FL w' ad L := fun i x hx => by
  obtain ⟨g, off, h1, h2, h3, h4, h5⟩ := h i x hx
  exact ⟨g, off, h1, ⟨Nat.lt_of_lt_of_le h2.1 b.size, h2.2⟩, (b.cell (p := ⟨g, off + i * 3, none⟩) h2.1).trans h3, (b.cell (p := ⟨g, off + i * 3 + 1, none⟩) h2.1).trans h4, (b.cell (p := ⟨g, off + i * 3 + 2, none⟩) h2.1).trans h5⟩
/-- Words in a slice that is read. -/
def RdUs (FL : Nat → Prop) (w : World) (ad : Option Addr) (L : List Nat) : Prop := ∀ i x, L[i]? = some x → ∃ b off, ad = some ⟨b, off, none⟩ ∧ (b < w.heap.size ∧ ¬ FL b) ∧ w.cell? ⟨b, off + i, none⟩ = some (.int .u64 (x : Nat))
theorem RdUs.below {FL : Nat → Prop} {w w' : World} {ad : Option Addr} {L : List Nat} (h : RdUs FL w ad L) (b : Below w.heap.size w w') : RdUs FL w' ad L := fun i x hx => by
  obtain ⟨g, off, h1, h2, h3⟩ := h i x hx
  exact ⟨g, off, h1, ⟨Nat.lt_of_lt_of_le h2.1 b.size, h2.2⟩, (b.cell (p := ⟨g, off + i, none⟩) h2.1).trans h3⟩
def nodeF (k : Int) (h : Nat) : List Hl → Int
  | [] => -1
  | x :: L => if x.c = k ∧ x.h = h then x.n else nodeF k h L
def heldF (k : Int) : List Hl → Nat
  | [] => 0
  | x :: L => (if x.c = k then 1 else 0) + heldF k L
theorem heldF_le (k : Int) : ∀ L, heldF k L ≤ L.length
  | [] => Nat.le_refl _
  | x :: L => by have := heldF_le k L; unfold heldF; simp only [List.length_cons]; split <;> omega
theorem drop_at {α : Type} {L : List α} {i : Nat} (h : i < L.length) : ∃ x, L[i]? = some x ∧ L.drop i = x :: L.drop (i + 1) := by
  obtain ⟨x, hx⟩ : ∃ x, L[i]? = some x := ⟨_, List.getElem?_eq_getElem h⟩
  exact ⟨x, hx, by rw [List.drop_eq_getElem_cons h]; rw [List.getElem?_eq_getElem h] at hx; simp at hx; rw [hx]⟩

end Go.Proofs.Ytfllkacebhcbdaa
