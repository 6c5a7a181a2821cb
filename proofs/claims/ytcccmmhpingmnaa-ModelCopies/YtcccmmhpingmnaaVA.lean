/- A config, and whether it is right. -/
import Derived.Test.YtcccmmhpingmnaaNU
namespace Go.Proofs.Ytcccmmhpingmnaa
open Go.RowKit

/-- A config's cells. -/
abbrev cs (s a c d g k : Int) : Array Value := #[.int .i64 s, .int .i64 a, .int .i64 c, .int .i64 d, .int .i64 g, .int .i64 k]

/-- A config in a block of its own. -/
def IsCfg (w : World) (B : Nat) (s a c d g k : Int) : Prop := w.heap[B]? = some (.cells #[.int .i64 s, .int .i64 a, .int .i64 c, .int .i64 d, .int .i64 g, .int .i64 k] 26 (0, 0))

theorem IsCfg.cells {w : World} {B : Nat} {s a c d g k : Int} (x : IsCfg w B s a c d g k) :
    w.cell? ⟨B, 0, none⟩ = some (.int .i64 s) ∧ w.cell? ⟨B, 1, none⟩ = some (.int .i64 a) ∧ w.cell? ⟨B, 2, none⟩ = some (.int .i64 c) ∧ w.cell? ⟨B, 3, none⟩ = some (.int .i64 d) ∧ w.cell? ⟨B, 4, none⟩ = some (.int .i64 g) ∧ w.cell? ⟨B, 5, none⟩ = some (.int .i64 k) := by
  have x' : w.heap[B]? = _ := x
  refine ⟨?_, ?_, ?_, ?_, ?_, ?_⟩ <;> simp [World.cell?, x']
theorem IsCfg.lt {w : World} {B : Nat} {s a c d g k : Int} (x : IsCfg w B s a c d g k) : B < w.heap.size := lt_of_block x
theorem IsCfg.below {w w' : World} {B : Nat} {s a c d g k : Int} (x : IsCfg w B s a c d g k) (b : Below w.heap.size w w') : IsCfg w' B s a c d g k := by
  show w'.heap[B]? = _
  rw [b.block B x.lt]; exact x
theorem cfg_new (w : World) (s a c d g k : Int) : IsCfg (w.alloc (.cells #[.int .i64 s, .int .i64 a, .int .i64 c, .int .i64 d, .int .i64 g, .int .i64 k] 26)) w.heap.size s a c d g k := (MapKept.heap_alloc w _).1
def wi (n lo hi : Int) : Bool := decide (lo ≤ n) && decide (n ≤ hi)
def be (i n : Int) : Bool := decide (0 ≤ i) && decide (i < n)
theorem wi_iff {n lo hi : Int} : wi n lo hi = true ↔ lo ≤ n ∧ n ≤ hi := by simp [wi]
theorem be_iff {i n : Int} : be i n = true ↔ 0 ≤ i ∧ i < n := by simp [be]
theorem wi_no {n lo hi : Int} (h : ¬ lo ≤ n) : false = wi n lo hi := by simp [wi, h]
theorem wi_yes {n lo hi : Int} (h : lo ≤ n) : decide (n ≤ hi) = wi n lo hi := by simp [wi, h]
theorem be_no {i n : Int} (h : ¬ 0 ≤ i) : false = be i n := by simp [be, h]
theorem be_yes {i n : Int} (h : 0 ≤ i) : decide (i < n) = be i n := by simp [be, h]

theorem within_any (n lo hi : Int) (w : World) : Calls Try.prog 50 #[.int .i64 n, .int .i64 lo, .int .i64 hi] w fun e w' => e = .returned (.bool (wi n lo hi)) ∧ w = w' := by
  go_enter Try.func50, Try.ntmps50
  go_wp2
  all_goals go_ret
  · exact ⟨congrArg (fun b => Ending.returned (Value.bool b)) (wi_yes (by omega)), rfl⟩
  · exact ⟨congrArg (fun b => Ending.returned (Value.bool b)) (wi_no (by omega)), rfl⟩

/-- Whether a config is right. -/
def rightB (s a c d g k : Int) : Bool := wi s 1 64 && wi a 0 8 && wi c 1 8 && wi d 1 16 && wi g 1 1048576 && wi k 0 64

theorem rightB_iff {s a c d g k : Int} : rightB s a c d g k = true ↔ (1 ≤ s ∧ s ≤ 64) ∧ (0 ≤ a ∧ a ≤ 8) ∧ (1 ≤ c ∧ c ≤ 8) ∧ (1 ≤ d ∧ d ≤ 16) ∧ (1 ≤ g ∧ g ≤ 1048576) ∧ (0 ≤ k ∧ k ≤ 64) := by
  unfold rightB
  simp only [Bool.and_eq_true, wi_iff]
  omega
theorem bool_of {b : Bool} {P : Prop} [Decidable P] (h : b = true ↔ P) : decide P = b := by
  by_cases hp : P
  · rw [h.2 hp]; simpa using hp
  · have : ¬ b = true := fun k => hp (h.1 k)
    rw [Bool.eq_false_iff.2 this]; simpa using hp
theorem bool_no {b : Bool} {P : Prop} (h : b = true ↔ P) (hp : ¬ P) : false = b := (Bool.eq_false_iff.2 (fun k => hp (h.1 k))).symm

set_option maxHeartbeats 2000000 in
theorem right_any (s a c d g k : Int) (w : World) : Calls Try.prog 26 #[.agg (cs s a c d g k)] w fun e w' => e = .returned (.bool (rightB s a c d g k)) ∧ Below w.heap.size w w' := by
  have c1 := within_any s 1 64
  have c2 := within_any a 0 8
  have c3 := within_any c 1 8
  have c4 := within_any d 1 16
  have c5 := within_any g 1 1048576
  have c6 := within_any k 0 64
  unfold rightB
  generalize wi s 1 64 = b1 at *
  generalize wi a 0 8 = b2 at *
  generalize wi c 1 8 = b3 at *
  generalize wi d 1 16 = b4 at *
  generalize wi g 1 1048576 = b5 at *
  generalize wi k 0 64 = b6 at *
  have bel := alloc_below w (.cells #[.int .i64 s, .int .i64 a, .int .i64 c, .int .i64 d, .int .i64 g, .int .i64 k] 26)
  go_enter Try.func26, Try.ntmps26
  go_wp2_with (go_at_call 50; first | (with_reducible refine (c1 _).mono ?_; rintro e w1 ⟨rfl, rfl⟩) | (with_reducible refine (c2 _).mono ?_; rintro e w1 ⟨rfl, rfl⟩) | (with_reducible refine (c3 _).mono ?_; rintro e w1 ⟨rfl, rfl⟩) | (with_reducible refine (c4 _).mono ?_; rintro e w1 ⟨rfl, rfl⟩) | (with_reducible refine (c5 _).mono ?_; rintro e w1 ⟨rfl, rfl⟩) | (with_reducible refine (c6 _).mono ?_; rintro e w1 ⟨rfl, rfl⟩))
  all_goals go_ret
  all_goals
    clear c1 c2 c3 c4 c5 c6
    refine ⟨congrArg (fun b => Ending.returned (Value.bool b)) ?_, bel⟩
    simp_all

end Go.Proofs.Ytcccmmhpingmnaa
