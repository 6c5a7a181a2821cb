/- A memory of words as it lies in the heap, and what may turn in a world: no program in sight. -/
import Derived.WalkKit
import Derived.WalkSpells
import Derived.WalkLawsBesides
import Derived.OneCell
import Derived.Deep.Draws
namespace Go.Proofs.YtjbjijkkmlehgaaDoor.Mm
open Go.RowKit

/-- What a memory holds: its words; how many touches there were; the last one. -/
structure MS where
  X : List Nat
  t : Int
  k : Int
  a : Int
  p : Int
  q : Int

def wordsOf (X : List Nat) : Array Value := (X.map fun (x : Nat) => Value.int .u64 (x : Int)).toArray

/-- Block M is the memory's struct, block G its row of words. -/
structure IsMem (w : World) (M G : Nat) (s : MS) : Prop where
  head : w.heap[M]? = some (.cells #[.slice (some ⟨G, 0, none⟩) s.X.length s.X.length, .int .i64 s.t, .int .i64 s.k, .int .i64 s.a, .int .u64 s.p, .int .u64 s.q] 92 (0, 0))
  row : w.heap[G]? = some (.cells (wordsOf s.X) 35 (0, 0))
  ne : M ≠ G
  fits : ∀ x ∈ s.X, x < 18446744073709551616

/-- All but two blocks is as it was; there may be new blocks. -/
structure Only (M G : Nat) (w w' : World) : Prop where
  os : w'.os = w.os
  tape : w'.tape = w.tape
  output : w'.output = w.output
  size : w.heap.size ≤ w'.heap.size
  block : ∀ i, i < w.heap.size → i ≠ M → i ≠ G → w'.heap[i]? = w.heap[i]?

theorem Only.refl (M G : Nat) (w : World) : Only M G w w := ⟨rfl, rfl, rfl, Nat.le_refl _, fun _ _ _ _ => rfl⟩
theorem Only.trans {M G : Nat} {a b c : World} (h : Only M G a b) (k : Only M G b c) : Only M G a c :=
  ⟨k.os.trans h.os, k.tape.trans h.tape, k.output.trans h.output, Nat.le_trans h.size k.size, fun i hi h1 h2 => (k.block i (Nat.lt_of_lt_of_le hi h.size) h1 h2).trans (h.block i hi h1 h2)⟩
theorem Only.setCell {M G : Nat} {a w : World} (h : Only M G a w) {b o : Nat} (hb : b = M ∨ b = G) (v : Value) : Only M G a (w.setCell ⟨b, o, none⟩ v) :=
  h.trans ⟨rfl, rfl, rfl, by simp [World.setCell], fun i _ h1 h2 => Below.heap_setCell _ _ _ _ (by rcases hb with rfl | rfl <;> assumption)⟩
theorem Only.of_below {M G : Nat} {w w' : World} (h : Below w.heap.size w w') : Only M G w w' := ⟨h.os, h.tape, h.output, h.size, fun i hi _ _ => h.block i hi⟩
theorem Only.below {M G B : Nat} {w0 w w' : World} (h0 : Below B w0 w) (h : Only M G w w') (hM : B ≤ M) (hG : B ≤ G) (hB : B ≤ w0.heap.size) : Below B w0 w' :=
  h0.trans ⟨h.os, h.tape, h.output, h.size, fun i hi => h.block i (Nat.lt_of_lt_of_le hi (Nat.le_trans hB h0.size)) (by omega) (by omega)⟩
theorem Only.cell {M G : Nat} {w w' : World} (h : Only M G w w') {x : Addr} (hx : x.block < w.heap.size) (h1 : x.block ≠ M) (h2 : x.block ≠ G) : w'.cell? x = w.cell? x := World.cell?_of_block (w := w) (h.block _ hx h1 h2)

theorem IsMem.M_lt {w : World} {M G : Nat} {s : MS} (h : IsMem w M G s) : M < w.heap.size := lt_of_block h.head
theorem IsMem.G_lt {w : World} {M G : Nat} {s : MS} (h : IsMem w M G s) : G < w.heap.size := lt_of_block h.row

theorem IsMem.other {w w' : World} {M G M' G' : Nat} {s : MS} (h : IsMem w M G s) (ho : Only M' G' w w') (h1 : M ≠ M') (h2 : M ≠ G') (h3 : G ≠ M') (h4 : G ≠ G') : IsMem w' M G s :=
  ⟨by rw [ho.block M h.M_lt h1 h2]; exact h.head, by rw [ho.block G h.G_lt h3 h4]; exact h.row, h.ne, h.fits⟩
theorem IsMem.below {w w' : World} {M G : Nat} {s : MS} (h : IsMem w M G s) (hb : Below w.heap.size w w') : IsMem w' M G s :=
  ⟨by rw [hb.block M h.M_lt]; exact h.head, by rw [hb.block G h.G_lt]; exact h.row, h.ne, h.fits⟩

theorem IsMem.c0 {w : World} {M G : Nat} {s : MS} (h : IsMem w M G s) : w.cell? ⟨M, 0, none⟩ = some (.slice (some ⟨G, 0, none⟩) s.X.length s.X.length) := by simp [World.cell?, h.head]
theorem IsMem.c1 {w : World} {M G : Nat} {s : MS} (h : IsMem w M G s) : w.cell? ⟨M, 1, none⟩ = some (.int .i64 s.t) := by simp [World.cell?, h.head]
theorem IsMem.c2 {w : World} {M G : Nat} {s : MS} (h : IsMem w M G s) : w.cell? ⟨M, 2, none⟩ = some (.int .i64 s.k) := by simp [World.cell?, h.head]
theorem IsMem.c3 {w : World} {M G : Nat} {s : MS} (h : IsMem w M G s) : w.cell? ⟨M, 3, none⟩ = some (.int .i64 s.a) := by simp [World.cell?, h.head]
theorem IsMem.c4 {w : World} {M G : Nat} {s : MS} (h : IsMem w M G s) : w.cell? ⟨M, 4, none⟩ = some (.int .u64 s.p) := by simp [World.cell?, h.head]
theorem IsMem.c5 {w : World} {M G : Nat} {s : MS} (h : IsMem w M G s) : w.cell? ⟨M, 5, none⟩ = some (.int .u64 s.q) := by simp [World.cell?, h.head]
theorem IsMem.fM {w : World} {M G : Nat} {s : MS} (h : IsMem w M G s) (i : Nat) : w.frozen? ⟨M, i, none⟩ = false := by simp [World.frozen?, h.head]
theorem IsMem.fG {w : World} {M G : Nat} {s : MS} (h : IsMem w M G s) (i : Nat) : w.frozen? ⟨G, i, none⟩ = false := by simp [World.frozen?, h.row]
theorem IsMem.word {w : World} {M G : Nat} {s : MS} (h : IsMem w M G s) (i : Nat) (hi : i < s.X.length) : w.cell? ⟨G, i, none⟩ = some (.int .u64 ((s.X.getD i 0 : Nat) : Int)) := by
  simp [World.cell?, h.row, wordsOf, hi]
theorem IsMem.word_lt {w : World} {M G : Nat} {s : MS} (h : IsMem w M G s) (i : Nat) : s.X.getD i 0 < 18446744073709551616 := by
  by_cases hi : i < s.X.length
  · have e : s.X.getD i 0 = s.X[i] := by simp [List.getD, hi]
    rw [e]; exact h.fits _ (List.getElem_mem hi)
  · have e : s.X.getD i 0 = 0 := by simp [List.getD, hi]
    rw [e]; omega

theorem heap_setCell_at {w : World} {b o : Nat} {c : Array Value} {e : TypeId} {fz : Nat × Nat} (h : w.heap[b]? = some (.cells c e fz)) (v : Value) :
    (w.setCell ⟨b, o, none⟩ v).heap[b]? = some (.cells (c.setIfInBounds o v) e fz) := by
  have hlt := lt_of_block h
  have h' : w.heap[b] = .cells c e fz := by simpa [Array.getElem?_eq_getElem hlt] using h
  show (w.heap.modify b _)[b]? = _
  rw [Array.getElem?_eq_getElem (by simpa using hlt), Array.getElem_modify_self, h']
  rfl

def touched (s : MS) (kd : Int) (i : Nat) (v : Nat) : MS := ⟨s.X.set i v, s.t + 1, kd, i, (s.X.getD i 0 : Nat), v⟩

theorem mem_touched {w : World} {M G : Nat} {s : MS} (h : IsMem w M G s) (kd : Int) (i v : Nat) (hv : v < 18446744073709551616) :
    IsMem ((((((w.setCell ⟨M, 2, none⟩ (.int .i64 kd)).setCell ⟨M, 3, none⟩ (.int .i64 i)).setCell ⟨M, 4, none⟩ (.int .u64 (s.X.getD i 0 : Nat))).setCell ⟨M, 5, none⟩ (.int .u64 v)).setCell ⟨G, i, none⟩ (.int .u64 v)).setCell ⟨M, 1, none⟩ (.int .i64 (s.t + 1))) M G (touched s kd i v) := by
  have hne := h.ne
  refine ⟨?_, ?_, h.ne, ?_⟩
  · have e1 := heap_setCell_at (o := 2) h.head (.int .i64 kd)
    have e2 := heap_setCell_at (o := 3) e1 (.int .i64 i)
    have e3 := heap_setCell_at (o := 4) e2 (.int .u64 (s.X.getD i 0 : Nat))
    have e4 := heap_setCell_at (o := 5) e3 (.int .u64 v)
    have e5 := (Below.heap_setCell _ ⟨G, i, none⟩ (.int .u64 v) M hne).trans e4
    have e6 := heap_setCell_at (o := 1) e5 (.int .i64 (s.t + 1))
    rw [e6]
    simp [touched]
  · rw [Below.heap_setCell _ _ _ _ (Ne.symm hne)]
    have e1 := (Below.heap_setCell w ⟨M, 2, none⟩ (.int .i64 kd) G (Ne.symm hne)).trans h.row
    have e2 := (Below.heap_setCell _ ⟨M, 3, none⟩ (.int .i64 i) G (Ne.symm hne)).trans e1
    have e3 := (Below.heap_setCell _ ⟨M, 4, none⟩ (.int .u64 (s.X.getD i 0 : Nat)) G (Ne.symm hne)).trans e2
    have e4 := (Below.heap_setCell _ ⟨M, 5, none⟩ (.int .u64 v) G (Ne.symm hne)).trans e3
    have e5 := heap_setCell_at (o := i) e4 (.int .u64 v)
    rw [e5]
    simp [touched, wordsOf, List.map_set]
  · intro x hx
    simp only [touched] at hx
    rcases List.mem_or_eq_of_mem_set hx with h1 | rfl
    · exact h.fits _ h1
    · exact hv

theorem only_touched {w : World} {M G : Nat} (v1 v2 v3 v4 v5 v6 : Value) (i : Nat) :
    Only M G w ((((((w.setCell ⟨M, 2, none⟩ v1).setCell ⟨M, 3, none⟩ v2).setCell ⟨M, 4, none⟩ v3).setCell ⟨M, 5, none⟩ v4).setCell ⟨G, i, none⟩ v5).setCell ⟨M, 1, none⟩ v6) :=
  ((((((Only.refl M G w).setCell (.inl rfl) _).setCell (.inl rfl) _).setCell (.inl rfl) _).setCell (.inl rfl) _).setCell (.inr rfl) _).setCell (.inl rfl) _

end Go.Proofs.YtjbjijkkmlehgaaDoor.Mm
