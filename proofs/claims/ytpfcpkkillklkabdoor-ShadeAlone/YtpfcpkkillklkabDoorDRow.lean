/- A row of headers that was made, and one of them written. -/
import Derived.Test.YtpfcpkkillklkabDoorDFill
import Derived.Test.YtpfcpkkillklkabDoorMMake
namespace Go.Proofs.YtpfcpkkillklkabDoor
open Go.RowKit

/-- The six cells of a header. -/
def Hv.cells (h : Hv) : List Value := [.int .i64 h.k, .int .i64 h.m, .bool h.g, .int .i64 h.a, .int .i64 h.n, .int .i64 h.s]
def hv0 : Hv := ⟨0, 0, false, 0, 0, 0⟩
/-- A row of headers: its block, and each one's cells. -/
def RowH (w : World) (g n : Nat) (H : Nat → Hv) : Prop := ∃ cur : Array Value, w.heap[g]? = some (.cells cur 25 (0, 0)) ∧ cur.size = n * 6 ∧ ∀ i, i < n → ∀ j, j < 6 → cur[i * 6 + j]? = (H i).cells[j]?
theorem made_heads {w : World} {base g n : Nat} (h : w.ownsRow base 25 6 (.slice (some ⟨g, 0, none⟩) n n) n (madeCells #[.int .i64 0, .int .i64 0, .bool false, .int .i64 0, .int .i64 0, .int .i64 0] (n * 6)).toList) : RowH w g n (fun _ => hv0) := by
  obtain ⟨_, ⟨h0, _⟩ | ⟨g', c', cur, h1, h2, h3, h4, h5, h6, h7⟩⟩ := h
  · cases h0
  · simp only [Value.slice.injEq, Option.some.injEq, Addr.mk.injEq] at h1
    obtain ⟨⟨rfl, -⟩, -, rfl⟩ := h1
    have e : cur.toList.take (n * 6) = cur.toList := List.take_of_length_le (by simp [h6])
    rw [e] at h7
    refine ⟨cur, h3, h6, fun i hi j hj => ?_⟩
    have hlt : i * 6 + j < n * 6 := by omega
    rw [← Array.getElem?_toList, h7]
    have em : (i * 6 + j) % 6 = j := by omega
    match j, hj with
    | 0, _ =>
      have hm0 : i * 6 % 6 = 0 := by omega
      have hl0 : i * 6 < n * 6 := by omega
      have hq : (List.range (n * 6))[i * 6]? = some (i * 6) := by rw [List.getElem?_range hl0]
      simp [madeCells, Hv.cells, hv0]
      exact ⟨_, hq, by rw [hm0]; rfl⟩
    | 1, _ => simp [madeCells, hlt, em, Hv.cells, hv0]
    | 2, _ => simp [madeCells, hlt, em, Hv.cells, hv0]
    | 3, _ => simp [madeCells, hlt, em, Hv.cells, hv0]
    | 4, _ => simp [madeCells, hlt, em, Hv.cells, hv0]
    | 5, _ => simp [madeCells, hlt, em, Hv.cells, hv0]
theorem RowH.cell {w : World} {g n : Nat} {H : Nat → Hv} (h : RowH w g n H) {i j : Nat} (hi : i < n) (hj : j < 6) : w.cell? ⟨g, i * 6 + j, none⟩ = (H i).cells[j]? := by
  obtain ⟨cur, h1, h2, h3⟩ := h
  rw [← h3 i hi j hj]
  simp [World.cell?, h1]
theorem RowH.free {w : World} {g n : Nat} {H : Nat → Hv} (h : RowH w g n H) (i : Nat) : w.frozen? ⟨g, i, none⟩ = false := by
  obtain ⟨cur, h1, _⟩ := h
  simp [World.frozen?, h1]
theorem RowH.lt {w : World} {g n : Nat} {H : Nat → Hv} (h : RowH w g n H) : g < w.heap.size := by
  obtain ⟨cur, h1, _⟩ := h
  exact lt_of_block h1
theorem RowH.below {w w' : World} {g n : Nat} {H : Nat → Hv} (h : RowH w g n H) (b : Below w.heap.size w w') : RowH w' g n H := by
  obtain ⟨cur, h1, h2⟩ := h
  exact ⟨cur, (b.block g (lt_of_block h1)).trans h1, h2⟩
theorem RowH.rd {w : World} {g n : Nat} {H : Nat → Hv} (h : RowH w g n H) : RdH w (some ⟨g, 0, none⟩) n H := fun i hi => by
  refine ⟨g, 0, rfl, h.lt, ?_⟩
  rw [Nat.zero_add]
  exact ⟨h.cell (j := 0) hi (by omega), h.cell (j := 1) hi (by omega), h.cell (j := 2) hi (by omega), h.cell (j := 3) hi (by omega), h.cell (j := 4) hi (by omega), h.cell (j := 5) hi (by omega)⟩
theorem RowH.put {w : World} {g n : Nat} {H : Nat → Hv} (h : RowH w g n H) {x : Nat} (hx : x < n) (k m : Int) (gg : Bool) (a nn s : Int) :
    RowH ((((((w.setCell ⟨g, x * 6, none⟩ (.int .i64 k)).setCell ⟨g, x * 6 + 1, none⟩ (.int .i64 m)).setCell ⟨g, x * 6 + 2, none⟩ (.bool gg)).setCell ⟨g, x * 6 + 3, none⟩ (.int .i64 a)).setCell ⟨g, x * 6 + 4, none⟩ (.int .i64 nn)).setCell ⟨g, x * 6 + 5, none⟩ (.int .i64 s)) g n (fun i => if i = x then ⟨k, m, gg, a, nn, s⟩ else H i) := by
  obtain ⟨cur, h1, h2, h3⟩ := h
  refine ⟨_, Mm.heap_setCell_at (Mm.heap_setCell_at (Mm.heap_setCell_at (Mm.heap_setCell_at (Mm.heap_setCell_at (Mm.heap_setCell_at h1 _) _) _) _) _) _, by simp [h2], fun i hi j hj => ?_⟩
  have hs : x * 6 + 5 < cur.size := by omega
  by_cases hix : i = x
  · subst hix
    match j, hj with
    | 0, _ => simp [Array.getElem?_setIfInBounds, Hv.cells]; omega
    | 1, _ => simp [Array.getElem?_setIfInBounds, Hv.cells]; omega
    | 2, _ => simp [Array.getElem?_setIfInBounds, Hv.cells]; omega
    | 3, _ => simp [Array.getElem?_setIfInBounds, Hv.cells]; omega
    | 4, _ => simp [Array.getElem?_setIfInBounds, Hv.cells]; omega
    | 5, _ => simp [Array.getElem?_setIfInBounds, Hv.cells]; omega
  · have e := h3 i hi j hj
    simp only [hix, if_false]
    rw [← e]
    have n0 : ¬ x * 6 = i * 6 + j := by omega
    have n1 : ¬ x * 6 + 1 = i * 6 + j := by omega
    have n2 : ¬ x * 6 + 2 = i * 6 + j := by omega
    have n3 : ¬ x * 6 + 3 = i * 6 + j := by omega
    have n4 : ¬ x * 6 + 4 = i * 6 + j := by omega
    have n5 : ¬ x * 6 + 5 = i * 6 + j := by omega
    simp [n0, n1, n2, n3, n4, n5]
end Go.Proofs.YtpfcpkkillklkabDoor
