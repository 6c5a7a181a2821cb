/- Contracts of head's functions. -/
import Derived.Test.YtjbjijkkmlehgaaDoorHhHBits
import Derived.Test.YtjbjijkkmlehgaaDoorHhTBase
import Derived.RegionTactic
import Derived.ChangeAlike
import Derived.Deep.RegionHeld
namespace Go.Proofs.YtjbjijkkmlehgaaDoor.Hh
open Go.RowKit

/-- The table of widths lies in the first variable's block. -/
def WT (w : World) : Prop := ∀ i, i < 7 → w.cell? ⟨0, i, none⟩ = some (.int .i64 ((wd i : Nat) : Int))

theorem lt_of_cell {w : World} {x : Addr} {v : Value} (h : w.cell? x = some v) : x.block < w.heap.size := by
  unfold World.cell? at h
  split at h
  · rename_i hb
    exact lt_of_block hb
  all_goals simp_all

theorem WT.lt {w : World} (h : WT w) : 0 < w.heap.size := lt_of_cell (h 0 (by omega))
theorem WT.below {w w' : World} (h : WT w) (b : Below w.heap.size w w') : WT w' := fun i hi => (b.cell h.lt).trans (h i hi)

theorem flag_any (b : Bool) (w : World) : Calls Tryd.prog 96 #[.bool b] w fun e w' => e = .returned (.int .i64 (b.toNat : Nat)) ∧ w = w' := by
  cases b
  · go_enter Tryd.func96, Tryd.ntmps96
    go_wp2
    go_ret
    exact ⟨rfl, rfl⟩
  · go_enter Tryd.func96, Tryd.ntmps96
    go_wp2
    go_ret
    exact ⟨rfl, rfl⟩

def kindOk (k : Int) : Bool := decide (0 ≤ k) && decide (k ≤ 4)

theorem isKind_any (k : Int) (w : World) : Calls Tryd.prog 69 #[.int .i64 k] w fun e w' => e = .returned (.bool (kindOk k)) ∧ w = w' := by
  unfold kindOk
  by_cases h : 0 ≤ k
  · go_enter Tryd.func69, Tryd.ntmps69
    go_wp2
    go_ret
    exact ⟨by simp [h], rfl⟩
  · go_enter Tryd.func69, Tryd.ntmps69
    go_wp2
    go_ret
    exact ⟨by have h' : ¬ 0 ≤ k := by omega
              simp [h'], rfl⟩

def usedK (k : Int) : Bool := decide (k = 1) || decide (k = 2)
theorem used_any (k : Int) (w : World) : Calls Tryd.prog 85 #[.int .i64 k] w fun e w' => e = .returned (.bool (usedK k)) ∧ w = w' := by
  unfold usedK
  by_cases h : k = 1
  · subst h
    go_enter Tryd.func85, Tryd.ntmps85
    go_wp2
    go_ret
    exact ⟨rfl, rfl⟩
  · go_enter Tryd.func85, Tryd.ntmps85
    go_wp2
    go_ret
    refine ⟨congrArg (fun b => Ending.returned (Value.bool b)) ?_, rfl⟩
    simp [h]
    rw [show (k == 1) = false by simpa using h]
    rfl

set_option maxHeartbeats 400000 in
theorem hpack_kind (k m : Int) (g : Bool) (a n s : Int) (h : kindOk k = false) (w : World) :
    Calls Tryd.prog 86 #[.agg #[.int .i64 k, .int .i64 m, .bool g, .int .i64 a, .int .i64 n, .int .i64 s]] w fun e w' => e = .returned (.tuple #[.int .u64 0, .bool false]) ∧ Below w.heap.size w w' := by
  have c := isKind_any k
  rw [h] at c
  go_enter Tryd.func86, Tryd.ntmps86
  go_wp2_with (go_at_call 69; refine (c _).mono ?_; rintro e w' ⟨rfl, rfl⟩)
  go_ret2
  exact ⟨rfl, (Below.refl w.heap.size w).alloc (Nat.le_refl _) _⟩

/-- A header in a block. -/
def IsHd (w : World) (b : Nat) (k m : Int) (g : Bool) (a n s : Int) : Prop :=
  w.heap[b]? = some (.cells #[.int .i64 k, .int .i64 m, .bool g, .int .i64 a, .int .i64 n, .int .i64 s] 48 (0, 0))

theorem IsHd.cells {w : World} {b : Nat} {k m : Int} {g : Bool} {a n s : Int} (h : IsHd w b k m g a n s) :
    w.cell? ⟨b, 0, none⟩ = some (.int .i64 k) ∧ w.cell? ⟨b, 1, none⟩ = some (.int .i64 m) ∧ w.cell? ⟨b, 2, none⟩ = some (.bool g) ∧ w.cell? ⟨b, 3, none⟩ = some (.int .i64 a) ∧ w.cell? ⟨b, 4, none⟩ = some (.int .i64 n) ∧ w.cell? ⟨b, 5, none⟩ = some (.int .i64 s) := by
  unfold IsHd at h
  refine ⟨?_, ?_, ?_, ?_, ?_, ?_⟩ <;> simp [World.cell?, h]

theorem ix0 (v0 v1 v2 v3 v4 v5 v6 : Value) (k : IntKind) (w : World) : (Instr.index 110 (.agg #[v0, v1, v2, v3, v4, v5, v6]) (.int k 0)).run Tryd.prog w = .ok v0 w := by kernel_rfl
theorem ix1 (v0 v1 v2 v3 v4 v5 v6 : Value) (k : IntKind) (w : World) : (Instr.index 110 (.agg #[v0, v1, v2, v3, v4, v5, v6]) (.int k 1)).run Tryd.prog w = .ok v1 w := by kernel_rfl
theorem ix2 (v0 v1 v2 v3 v4 v5 v6 : Value) (k : IntKind) (w : World) : (Instr.index 110 (.agg #[v0, v1, v2, v3, v4, v5, v6]) (.int k 2)).run Tryd.prog w = .ok v2 w := by kernel_rfl
theorem ix3 (v0 v1 v2 v3 v4 v5 v6 : Value) (k : IntKind) (w : World) : (Instr.index 110 (.agg #[v0, v1, v2, v3, v4, v5, v6]) (.int k 3)).run Tryd.prog w = .ok v3 w := by kernel_rfl
theorem ix4 (v0 v1 v2 v3 v4 v5 v6 : Value) (k : IntKind) (w : World) : (Instr.index 110 (.agg #[v0, v1, v2, v3, v4, v5, v6]) (.int k 4)).run Tryd.prog w = .ok v4 w := by kernel_rfl
theorem ix5 (v0 v1 v2 v3 v4 v5 v6 : Value) (k : IntKind) (w : World) : (Instr.index 110 (.agg #[v0, v1, v2, v3, v4, v5, v6]) (.int k 5)).run Tryd.prog w = .ok v5 w := by kernel_rfl
theorem ix6 (v0 v1 v2 v3 v4 v5 v6 : Value) (k : IntKind) (w : World) : (Instr.index 110 (.agg #[v0, v1, v2, v3, v4, v5, v6]) (.int k 6)).run Tryd.prog w = .ok v6 w := by kernel_rfl

end Go.Proofs.YtjbjijkkmlehgaaDoor.Hh
