/- Machines of package stack as they lie in the heap: no walk in sight. -/
import Derived.Test.YtjbjijkkmlehgaaDoorDSem
namespace Go.Proofs.YtjbjijkkmlehgaaDoor
open Go.RowKit
open Mm (IsMem MS touched Only)

/-- A Pop. -/
def IsPop (w : World) (P : Nat) (s a c d g k sl : Int) (em : Bool) (pc : Int) (tp : Nat) (nx : Int) : Prop :=
  w.heap[P]? = some (.cells #[.int .i64 sl, .bool em, .int .i64 s, .int .i64 a, .int .i64 c, .int .i64 d, .int .i64 g, .int .i64 k, .int .i64 pc, .int .u64 (tp : Nat), .int .i64 nx] 58 (0, 0))
/-- A Push. -/
def IsPush (w : World) (P : Nat) (s a c d g k sl pc : Int) (tp : Nat) : Prop :=
  w.heap[P]? = some (.cells #[.int .i64 s, .int .i64 a, .int .i64 c, .int .i64 d, .int .i64 g, .int .i64 k, .int .i64 sl, .int .i64 pc, .int .u64 (tp : Nat)] 70 (0, 0))

theorem IsPop.cells {w : World} {P : Nat} {s a c d g k sl : Int} {em : Bool} {pc : Int} {tp : Nat} {nx : Int} (h : IsPop w P s a c d g k sl em pc tp nx) :
    w.cell? ⟨P, 0, none⟩ = some (.int .i64 sl) ∧ w.cell? ⟨P, 1, none⟩ = some (.bool em) ∧ w.cell? ⟨P, 2, none⟩ = some (.int .i64 s) ∧ w.cell? ⟨P, 3, none⟩ = some (.int .i64 a) ∧ w.cell? ⟨P, 4, none⟩ = some (.int .i64 c) ∧ w.cell? ⟨P, 5, none⟩ = some (.int .i64 d) ∧ w.cell? ⟨P, 6, none⟩ = some (.int .i64 g) ∧ w.cell? ⟨P, 7, none⟩ = some (.int .i64 k) ∧ w.cell? ⟨P, 8, none⟩ = some (.int .i64 pc) ∧ w.cell? ⟨P, 9, none⟩ = some (.int .u64 (tp : Nat)) ∧ w.cell? ⟨P, 10, none⟩ = some (.int .i64 nx) := by
  have h' : w.heap[P]? = _ := h
  simp [World.cell?, h']
theorem IsPop.free {w : World} {P : Nat} {s a c d g k sl : Int} {em : Bool} {pc : Int} {tp : Nat} {nx : Int} (h : IsPop w P s a c d g k sl em pc tp nx) (i : Nat) : w.frozen? ⟨P, i, none⟩ = false := by
  have h' : w.heap[P]? = _ := h
  simp [World.frozen?, h']
theorem IsPop.lt {w : World} {P : Nat} {s a c d g k sl : Int} {em : Bool} {pc : Int} {tp : Nat} {nx : Int} (h : IsPop w P s a c d g k sl em pc tp nx) : P < w.heap.size := lt_of_block h
theorem IsPop.chg {L : List Nat} {w w' : World} {P : Nat} {s a c d g k sl : Int} {em : Bool} {pc : Int} {tp : Nat} {nx : Int} (h : IsPop w P s a c d g k sl em pc tp nx) (x : Chg L w w') (hn : P ∉ L) : IsPop w' P s a c d g k sl em pc tp nx := x.at h hn
theorem IsPop.below {w w' : World} {P : Nat} {s a c d g k sl : Int} {em : Bool} {pc : Int} {tp : Nat} {nx : Int} (h : IsPop w P s a c d g k sl em pc tp nx) (x : Below w.heap.size w w') : IsPop w' P s a c d g k sl em pc tp nx := h.chg (L := []) (Chg.of_below x) (by simp)

theorem IsPush.cells {w : World} {P : Nat} {s a c d g k sl pc : Int} {tp : Nat} (h : IsPush w P s a c d g k sl pc tp) :
    w.cell? ⟨P, 0, none⟩ = some (.int .i64 s) ∧ w.cell? ⟨P, 1, none⟩ = some (.int .i64 a) ∧ w.cell? ⟨P, 2, none⟩ = some (.int .i64 c) ∧ w.cell? ⟨P, 3, none⟩ = some (.int .i64 d) ∧ w.cell? ⟨P, 4, none⟩ = some (.int .i64 g) ∧ w.cell? ⟨P, 5, none⟩ = some (.int .i64 k) ∧ w.cell? ⟨P, 6, none⟩ = some (.int .i64 sl) ∧ w.cell? ⟨P, 7, none⟩ = some (.int .i64 pc) ∧ w.cell? ⟨P, 8, none⟩ = some (.int .u64 (tp : Nat)) := by
  have h' : w.heap[P]? = _ := h
  simp [World.cell?, h']
theorem IsPush.free {w : World} {P : Nat} {s a c d g k sl pc : Int} {tp : Nat} (h : IsPush w P s a c d g k sl pc tp) (i : Nat) : w.frozen? ⟨P, i, none⟩ = false := by
  have h' : w.heap[P]? = _ := h
  simp [World.frozen?, h']
theorem IsPush.lt {w : World} {P : Nat} {s a c d g k sl pc : Int} {tp : Nat} (h : IsPush w P s a c d g k sl pc tp) : P < w.heap.size := lt_of_block h
theorem IsPush.chg {L : List Nat} {w w' : World} {P : Nat} {s a c d g k sl pc : Int} {tp : Nat} (h : IsPush w P s a c d g k sl pc tp) (x : Chg L w w') (hn : P ∉ L) : IsPush w' P s a c d g k sl pc tp := x.at h hn
theorem IsPush.below {w w' : World} {P : Nat} {s a c d g k sl pc : Int} {tp : Nat} (h : IsPush w P s a c d g k sl pc tp) (x : Below w.heap.size w w') : IsPush w' P s a c d g k sl pc tp := h.chg (L := []) (Chg.of_below x) (by simp)

theorem IsPop.set0 {w : World} {P : Nat} {s a c d g k sl : Int} {em : Bool} {pc : Int} {tp : Nat} {nx : Int} (h : IsPop w P s a c d g k sl em pc tp nx) (v : Int) : IsPop (w.setCell ⟨P, 0, none⟩ (.int .i64 v)) P s a c d g k v em pc tp nx := Mm.heap_setCell_at h _
theorem IsPop.set1 {w : World} {P : Nat} {s a c d g k sl : Int} {em : Bool} {pc : Int} {tp : Nat} {nx : Int} (h : IsPop w P s a c d g k sl em pc tp nx) (v : Bool) : IsPop (w.setCell ⟨P, 1, none⟩ (.bool v)) P s a c d g k sl v pc tp nx := Mm.heap_setCell_at h _
theorem IsPop.set8 {w : World} {P : Nat} {s a c d g k sl : Int} {em : Bool} {pc : Int} {tp : Nat} {nx : Int} (h : IsPop w P s a c d g k sl em pc tp nx) (v : Int) : IsPop (w.setCell ⟨P, 8, none⟩ (.int .i64 v)) P s a c d g k sl em v tp nx := Mm.heap_setCell_at h _
theorem IsPop.set9 {w : World} {P : Nat} {s a c d g k sl : Int} {em : Bool} {pc : Int} {tp : Nat} {nx : Int} (h : IsPop w P s a c d g k sl em pc tp nx) (v : Nat) : IsPop (w.setCell ⟨P, 9, none⟩ (.int .u64 (v : Nat))) P s a c d g k sl em pc v nx := Mm.heap_setCell_at h _
theorem IsPop.set10 {w : World} {P : Nat} {s a c d g k sl : Int} {em : Bool} {pc : Int} {tp : Nat} {nx : Int} (h : IsPop w P s a c d g k sl em pc tp nx) (v : Int) : IsPop (w.setCell ⟨P, 10, none⟩ (.int .i64 v)) P s a c d g k sl em pc tp v := Mm.heap_setCell_at h _
theorem IsPush.set7 {w : World} {P : Nat} {s a c d g k sl pc : Int} {tp : Nat} (h : IsPush w P s a c d g k sl pc tp) (v : Int) : IsPush (w.setCell ⟨P, 7, none⟩ (.int .i64 v)) P s a c d g k sl v tp := Mm.heap_setCell_at h _
theorem IsPush.set8 {w : World} {P : Nat} {s a c d g k sl pc : Int} {tp : Nat} (h : IsPush w P s a c d g k sl pc tp) (v : Nat) : IsPush (w.setCell ⟨P, 8, none⟩ (.int .u64 (v : Nat))) P s a c d g k sl pc v := Mm.heap_setCell_at h _

/-- The slot that a number names, or -1. -/
def nmd (S x : Nat) : Int := if S < x then -1 else (x : Int) - 1
/-- The slot that a top names, or -1. -/
def fst (S t : Nat) : Int := nmd S (t % 65536)
theorem nmd_b (S x : Nat) : -1 ≤ nmd S x ∧ nmd S x < (S : Int) ∨ nmd S x = -1 := by unfold nmd; split <;> omega
theorem nmd_cases (S x : Nat) : nmd S x = -1 ∨ ∃ s : Nat, s < S ∧ nmd S x = (s : Int) ∧ x = s + 1 := by
  unfold nmd
  by_cases h : S < x
  · left; rw [if_pos h]
  · rw [if_neg h]
    cases x with
    | zero => left; rfl
    | succ s => right; exact ⟨s, by omega, by omega, rfl⟩
theorem nmd_of {S s : Nat} (h : s < S) : nmd S (s + 1) = (s : Int) := by unfold nmd; rw [if_neg (by omega)]; omega
theorem nmd_zero (S : Nat) : nmd S 0 = -1 := by unfold nmd; rw [if_neg (by omega)]; rfl

end Go.Proofs.YtjbjijkkmlehgaaDoor
