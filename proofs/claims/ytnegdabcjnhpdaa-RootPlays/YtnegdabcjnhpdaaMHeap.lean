/- A memory of words as it lies in the heap, and what may turn in a world: no program in sight. -/
import Derived.WalkKit
import Derived.WalkSpells
import Derived.WalkLawsBesides
import Derived.OneCell
import Derived.Deep.Draws
namespace Go.Proofs.Ytnegdabcjnhpdaa.Mm
open Go.RowKit

/-- What a memory holds: its words; how many touches there were; the last one. -/
structure MS where
  X : List Nat
  t : Int
  k : Int
  a : Int
  p : Int
  q : Int

def wordsOf (X : List Nat) : Array Value := (X.map fun (x : Nat) => Value.int .u64 (x : Int)).toArray

/-- All but two blocks is as it was; there may be new blocks. -/
structure Only (M G : Nat) (w w' : World) : Prop where
  os : w'.os = w.os
  tape : w'.tape = w.tape
  output : w'.output = w.output
  size : w.heap.size ≤ w'.heap.size
  block : ∀ i, i < w.heap.size → i ≠ M → i ≠ G → w'.heap[i]? = w.heap[i]?

theorem Only.refl (M G : Nat) (w : World) : Only M G w w := ⟨rfl, rfl, rfl, Nat.le_refl _, fun _ _ _ _ => rfl⟩
theorem Only.trans {M G : Nat} {a b c : World} (h : Only M G a b) (k : Only M G b c) : Only M G a c :=
  ⟨k.os.trans h.os, k.tape.trans h.tape, k.output.trans h.output, Nat.le_trans h.size k.size, fun i hi h1 h2 => (k.block i (Nat.lt_of_lt_of_le hi h.size) h1 h2).trans (h.block i hi h1 h2)⟩
theorem Only.setCell {M G : Nat} {a w : World} (h : Only M G a w) {b o : Nat} (hb : b = M ∨ b = G) (v : Value) : Only M G a (w.setCell ⟨b, o, none⟩ v) :=
  h.trans ⟨rfl, rfl, rfl, by simp [World.setCell], fun i _ h1 h2 => Below.heap_setCell _ _ _ _ (by rcases hb with rfl | rfl <;> assumption)⟩
theorem Only.of_below {M G : Nat} {w w' : World} (h : Below w.heap.size w w') : Only M G w w' := ⟨h.os, h.tape, h.output, h.size, fun i hi _ _ => h.block i hi⟩
theorem Only.below {M G B : Nat} {w0 w w' : World} (h0 : Below B w0 w) (h : Only M G w w') (hM : B ≤ M) (hG : B ≤ G) (hB : B ≤ w0.heap.size) : Below B w0 w' :=
  h0.trans ⟨h.os, h.tape, h.output, h.size, fun i hi => h.block i (Nat.lt_of_lt_of_le hi (Nat.le_trans hB h0.size)) (by omega) (by omega)⟩
theorem Only.cell {M G : Nat} {w w' : World} (h : Only M G w w') {x : Addr} (hx : x.block < w.heap.size) (h1 : x.block ≠ M) (h2 : x.block ≠ G) : w'.cell? x = w.cell? x := World.cell?_of_block (w := w) (h.block _ hx h1 h2)

theorem heap_setCell_at {w : World} {b o : Nat} {c : Array Value} {e : TypeId} {fz : Nat × Nat} (h : w.heap[b]? = some (.cells c e fz)) (v : Value) :
    (w.setCell ⟨b, o, none⟩ v).heap[b]? = some (.cells (c.setIfInBounds o v) e fz) := by
  have hlt := lt_of_block h
  have h' : w.heap[b] = .cells c e fz := by simpa [Array.getElem?_eq_getElem hlt] using h
  show (w.heap.modify b _)[b]? = _
  rw [Array.getElem?_eq_getElem (by simpa using hlt), Array.getElem_modify_self, h']
  rfl

def touched (s : MS) (kd : Int) (i : Nat) (v : Nat) : MS := ⟨s.X.set i v, s.t + 1, kd, i, (s.X.getD i 0 : Nat), v⟩

theorem only_touched {w : World} {M G : Nat} (v1 v2 v3 v4 v5 v6 : Value) (i : Nat) :
    Only M G w ((((((w.setCell ⟨M, 2, none⟩ v1).setCell ⟨M, 3, none⟩ v2).setCell ⟨M, 4, none⟩ v3).setCell ⟨M, 5, none⟩ v4).setCell ⟨G, i, none⟩ v5).setCell ⟨M, 1, none⟩ v6) :=
  ((((((Only.refl M G w).setCell (.inl rfl) _).setCell (.inl rfl) _).setCell (.inl rfl) _).setCell (.inl rfl) _).setCell (.inr rfl) _).setCell (.inl rfl) _

end Go.Proofs.Ytnegdabcjnhpdaa.Mm
