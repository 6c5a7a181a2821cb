/- Contracts of plan's small functions, and of the reference's Right and Room. -/
import Derived.Test.YtjbjijkkmlehgaaDoorRows
import Derived.WalkKit
import Derived.WalkSpells
import Derived.WalkLawsBesides
import Derived.OpenShut
import Derived.Below
import Derived.BigQuiet
import Derived.RegionTactic
import Derived.ChangeAlike
import Derived.Deep.Cut
namespace Go.Proofs.YtjbjijkkmlehgaaDoor
open Go.RowKit

/-- A config's cells. -/
abbrev cs (s a c d g k : Int) : Array Value := #[.int .i64 s, .int .i64 a, .int .i64 c, .int .i64 d, .int .i64 g, .int .i64 k]

/-- A config in a block of its own. -/
def IsCfg (w : World) (B : Nat) (s a c d g k : Int) : Prop := w.heap[B]? = some (.cells #[.int .i64 s, .int .i64 a, .int .i64 c, .int .i64 d, .int .i64 g, .int .i64 k] 23 (0, 0))

theorem IsCfg.cells {w : World} {B : Nat} {s a c d g k : Int} (x : IsCfg w B s a c d g k) :
    w.cell? ⟨B, 0, none⟩ = some (.int .i64 s) ∧ w.cell? ⟨B, 1, none⟩ = some (.int .i64 a) ∧ w.cell? ⟨B, 2, none⟩ = some (.int .i64 c) ∧ w.cell? ⟨B, 3, none⟩ = some (.int .i64 d) ∧ w.cell? ⟨B, 4, none⟩ = some (.int .i64 g) ∧ w.cell? ⟨B, 5, none⟩ = some (.int .i64 k) := by
  have x' : w.heap[B]? = _ := x
  refine ⟨?_, ?_, ?_, ?_, ?_, ?_⟩ <;> simp [World.cell?, x']
theorem IsCfg.lt {w : World} {B : Nat} {s a c d g k : Int} (x : IsCfg w B s a c d g k) : B < w.heap.size := lt_of_block x
theorem IsCfg.below {w w' : World} {B : Nat} {s a c d g k : Int} (x : IsCfg w B s a c d g k) (b : Below w.heap.size w w') : IsCfg w' B s a c d g k := by
  show w'.heap[B]? = _
  rw [b.block B x.lt]; exact x
theorem cfg_new (w : World) (s a c d g k : Int) : IsCfg (w.alloc (.cells #[.int .i64 s, .int .i64 a, .int .i64 c, .int .i64 d, .int .i64 g, .int .i64 k] 23)) w.heap.size s a c d g k := (MapKept.heap_alloc w _).1
theorem seq_below {a b c : World} (h : Below a.heap.size a b) (k : Below b.heap.size b c) : Below a.heap.size a c := h.trans (k.mono h.size)
theorem alloc_below (w : World) (o : Obj) : Below w.heap.size w (w.alloc o) := (Below.refl w.heap.size w).alloc (Nat.le_refl _) _

theorem region_below {P : Program} {id : Nat} {Q : Exit → Act → World → Prop} {a : Act} {w : World} {l : List Oper} (hm : P.follows .mixedOrders = true) (hB : Region.lexB .any l.toArray = true)
    (h : wpQuiet P l.toArray (fun w' => Below w.heap.size w w') (fun a' => ∀ w', Below w.heap.size w w' → Q .normal a' w') l a) : (Code.region id l.toArray true).wp P Q a w :=
  wp_region_quiet (C := fun w' => Below w.heap.size w w') hm hB ⟨rfl, rfl, rfl, Nat.le_refl _, fun _ _ => rfl⟩ (by simpa using h)

def wi (n lo hi : Int) : Bool := decide (lo ≤ n) && decide (n ≤ hi)
def be (i n : Int) : Bool := decide (0 ≤ i) && decide (i < n)
theorem wi_iff {n lo hi : Int} : wi n lo hi = true ↔ lo ≤ n ∧ n ≤ hi := by simp [wi]
theorem be_iff {i n : Int} : be i n = true ↔ 0 ≤ i ∧ i < n := by simp [be]
theorem wi_no {n lo hi : Int} (h : ¬ lo ≤ n) : false = wi n lo hi := by simp [wi, h]
theorem wi_yes {n lo hi : Int} (h : lo ≤ n) : decide (n ≤ hi) = wi n lo hi := by simp [wi, h]
theorem be_no {i n : Int} (h : ¬ 0 ≤ i) : false = be i n := by simp [be, h]
theorem be_yes {i n : Int} (h : 0 ≤ i) : decide (i < n) = be i n := by simp [be, h]

theorem within_any (n lo hi : Int) (w : World) : Calls Tryd.prog 60 #[.int .i64 n, .int .i64 lo, .int .i64 hi] w fun e w' => e = .returned (.bool (wi n lo hi)) ∧ w = w' := by
  go_enter Tryd.func60, Tryd.ntmps60
  go_wp2
  all_goals go_ret
  · exact ⟨congrArg (fun b => Ending.returned (Value.bool b)) (wi_yes (by omega)), rfl⟩
  · exact ⟨congrArg (fun b => Ending.returned (Value.bool b)) (wi_no (by omega)), rfl⟩

theorem isBelow_any (i n : Int) (w : World) : Calls Tryd.prog 73 #[.int .i64 i, .int .i64 n] w fun e w' => e = .returned (.bool (be i n)) ∧ w = w' := by
  go_enter Tryd.func73, Tryd.ntmps73
  go_wp2
  all_goals go_ret
  · exact ⟨congrArg (fun b => Ending.returned (Value.bool b)) (be_yes (by omega)), rfl⟩
  · exact ⟨congrArg (fun b => Ending.returned (Value.bool b)) (be_no (by omega)), rfl⟩

/-- Whether a config is right. -/
def rightB (s a c d g k : Int) : Bool := wi s 1 64 && wi a 0 8 && wi c 1 8 && wi d 1 16 && wi g 1 1048576 && wi k 0 64

theorem rightB_iff {s a c d g k : Int} : rightB s a c d g k = true ↔ (1 ≤ s ∧ s ≤ 64) ∧ (0 ≤ a ∧ a ≤ 8) ∧ (1 ≤ c ∧ c ≤ 8) ∧ (1 ≤ d ∧ d ≤ 16) ∧ (1 ≤ g ∧ g ≤ 1048576) ∧ (0 ≤ k ∧ k ≤ 64) := by
  unfold rightB
  simp only [Bool.and_eq_true, wi_iff]
  omega
theorem bool_of {b : Bool} {P : Prop} [Decidable P] (h : b = true ↔ P) : decide P = b := by
  by_cases hp : P
  · rw [h.2 hp]; simpa using hp
  · have : ¬ b = true := fun k => hp (h.1 k)
    rw [Bool.eq_false_iff.2 this]; simpa using hp
theorem bool_no {b : Bool} {P : Prop} (h : b = true ↔ P) (hp : ¬ P) : false = b := (Bool.eq_false_iff.2 (fun k => hp (h.1 k))).symm

set_option maxHeartbeats 2000000 in
theorem right_any (s a c d g k : Int) (w : World) : Calls Tryd.prog 34 #[.agg (cs s a c d g k)] w fun e w' => e = .returned (.bool (rightB s a c d g k)) ∧ Below w.heap.size w w' := by
  have c1 := within_any s 1 64
  have c2 := within_any a 0 8
  have c3 := within_any c 1 8
  have c4 := within_any d 1 16
  have c5 := within_any g 1 1048576
  have c6 := within_any k 0 64
  unfold rightB
  generalize wi s 1 64 = b1 at *
  generalize wi a 0 8 = b2 at *
  generalize wi c 1 8 = b3 at *
  generalize wi d 1 16 = b4 at *
  generalize wi g 1 1048576 = b5 at *
  generalize wi k 0 64 = b6 at *
  have bel := alloc_below w (.cells #[.int .i64 s, .int .i64 a, .int .i64 c, .int .i64 d, .int .i64 g, .int .i64 k] 23)
  go_enter Tryd.func34, Tryd.ntmps34
  go_wp2_with (go_at_call 60; first | (with_reducible refine (c1 _).mono ?_; rintro e w1 ⟨rfl, rfl⟩) | (with_reducible refine (c2 _).mono ?_; rintro e w1 ⟨rfl, rfl⟩) | (with_reducible refine (c3 _).mono ?_; rintro e w1 ⟨rfl, rfl⟩) | (with_reducible refine (c4 _).mono ?_; rintro e w1 ⟨rfl, rfl⟩) | (with_reducible refine (c5 _).mono ?_; rintro e w1 ⟨rfl, rfl⟩) | (with_reducible refine (c6 _).mono ?_; rintro e w1 ⟨rfl, rfl⟩))
  all_goals go_ret
  all_goals
    clear c1 c2 c3 c4 c5 c6
    refine ⟨congrArg (fun b => Ending.returned (Value.bool b)) ?_, bel⟩
    simp_all

set_option maxHeartbeats 2000000 in
theorem rright_any (s a c d g k : Int) (w : World) : Calls Tryd.prog 28 #[.agg (cs s a c d g k)] w fun e w' => e = .returned (.bool (rightB s a c d g k)) ∧ Below w.heap.size w w' := by
  have bel := alloc_below w (.cells #[.int .i64 s, .int .i64 a, .int .i64 c, .int .i64 d, .int .i64 g, .int .i64 k] 23)
  go_enter Tryd.func28, Tryd.ntmps28
  go_wp2
  all_goals go_ret
  all_goals
    refine ⟨congrArg (fun b => Ending.returned (Value.bool b)) ?_, bel⟩
    first
      | exact bool_no rightB_iff (by omega)
      | exact bool_of (by rw [rightB_iff]; omega)

theorem firstEntry_any (s a c d g k : Int) (hc : 1 ≤ c ∧ c ≤ 8) (w : World) : Calls Tryd.prog 90 #[.agg (cs s a c d g k)] w fun e w' => e = .returned (.int .i64 (4 + c)) ∧ Below w.heap.size w w' := by
  have bel := alloc_below w (.cells #[.int .i64 s, .int .i64 a, .int .i64 c, .int .i64 d, .int .i64 g, .int .i64 k] 23)
  go_enter Tryd.func90, Tryd.ntmps90
  go_wp2
  go_ret
  exact ⟨rfl, bel⟩

/-- How many words a body has. -/
def bsI (a : Int) : Int := if a < 3 then 3 else a

theorem bodySize_any (s a c d g k : Int) (w : World) : Calls Tryd.prog 74 #[.agg (cs s a c d g k)] w fun e w' => e = .returned (.int .i64 (bsI a)) ∧ Below w.heap.size w w' := by
  have bel := alloc_below w (.cells #[.int .i64 s, .int .i64 a, .int .i64 c, .int .i64 d, .int .i64 g, .int .i64 k] 23)
  unfold bsI
  go_enter Tryd.func74, Tryd.ntmps74
  go_wp2
  all_goals go_ret
  all_goals exact ⟨rfl, bel⟩

theorem room_any (s a c d g k : Int) (w : World) : Calls Tryd.prog 18 #[.agg (cs s a c d g k)] w fun e w' => e = .returned (.int .i64 (bsI a)) ∧ Below w.heap.size w w' := by
  have bel := alloc_below w (.cells #[.int .i64 s, .int .i64 a, .int .i64 c, .int .i64 d, .int .i64 g, .int .i64 k] 23)
  unfold bsI
  by_cases h : a < 3
  · rw [if_pos h]
    go_enter Tryd.func18, Tryd.ntmps18
    go_wp2
    go_ret
    exact ⟨rfl, bel⟩
  · rw [if_neg h]
    go_enter Tryd.func18, Tryd.ntmps18
    go_wp2
    go_ret
    exact ⟨rfl, bel⟩

theorem bsI_b (a : Int) (h : 0 ≤ a ∧ a ≤ 8) : 3 ≤ bsI a ∧ bsI a ≤ 8 := by unfold bsI; split <;> omega

set_option maxHeartbeats 1000000 in
theorem slotSize_any (s a c d g k : Int) (ha : 0 ≤ a ∧ a ≤ 8) (w : World) : Calls Tryd.prog 62 #[.agg (cs s a c d g k)] w fun e w' => e = .returned (.int .i64 (2 + bsI a)) ∧ Below w.heap.size w w' := by
  have c1 := bodySize_any s a c d g k
  have hb := bsI_b a ha
  generalize bsI a = B at *
  have bel := alloc_below w (.cells #[.int .i64 s, .int .i64 a, .int .i64 c, .int .i64 d, .int .i64 g, .int .i64 k] 23)
  go_enter Tryd.func62, Tryd.ntmps62
  go_wp2_with (go_at_call 74; refine (c1 _).mono ?_; rintro e w1 ⟨rfl, b⟩; replace bel := seq_below bel b)
  go_ret
  exact ⟨rfl, bel⟩

set_option maxHeartbeats 1000000 in
theorem hasSlot_any (s a c d g k i : Int) (w : World) : Calls Tryd.prog 64 #[.agg (cs s a c d g k), .int .i64 i] w fun e w' => e = .returned (.bool (rightB s a c d g k && be i s)) ∧ Below w.heap.size w w' := by
  have c1 := right_any s a c d g k
  have c2 := isBelow_any i s
  generalize rightB s a c d g k = b1 at *
  generalize be i s = b2 at *
  have hh := cfg_new w s a c d g k
  have bel := alloc_below w (.cells #[.int .i64 s, .int .i64 a, .int .i64 c, .int .i64 d, .int .i64 g, .int .i64 k] 23)
  go_enter Tryd.func64, Tryd.ntmps64
  cases b1
  · go_wp2_with (go_at_call 34; refine (c1 _).mono ?_; rintro e w1 ⟨rfl, b⟩; replace bel := seq_below bel b)
    go_ret
    exact ⟨rfl, bel⟩
  · go_wp2_with (first
      | (go_at_call 34; refine (c1 _).mono ?_; rintro e w1 ⟨rfl, b⟩; replace bel := seq_below bel b; replace hh := (hh.below b).cells)
      | (go_at_call 73; refine (c2 _).mono ?_; rintro e w1 ⟨rfl, rfl⟩))
    go_ret
    exact ⟨rfl, bel⟩

/-- A contract for use within a region of reads and calls that lay blocks. -/
theorem in_region {f : Nat} {args : Array Value} {v : Value} (h : ∀ w, Calls Tryd.prog f args w fun e w' => e = .returned v ∧ Below w.heap.size w w') (w1 : World) :
    ∀ w', Below w1.heap.size w1 w' → Calls Tryd.prog f args w' fun e w'' => e = .returned v ∧ Below w1.heap.size w1 w'' := fun w' hw' => (h w').mono fun _ _ ⟨h1, h2⟩ => ⟨h1, hw'.trans (h2.mono hw'.size)⟩

set_option linter.unusedSimpArgs false in
set_option maxHeartbeats 1000000 in
theorem firstView_any (s a c d g k : Int) (hc : 1 ≤ c ∧ c ≤ 8) (hd : 0 ≤ c * d ∧ c * d ≤ 128) (w : World) : Calls Tryd.prog 75 #[.agg (cs s a c d g k)] w fun e w' => e = .returned (.int .i64 (4 + c + c * d)) ∧ Below w.heap.size w w' := by
  have bel := alloc_below w (.cells #[.int .i64 s, .int .i64 a, .int .i64 c, .int .i64 d, .int .i64 g, .int .i64 k] 23)
  have hh := cfg_new w s a c d g k
  go_enter Tryd.func75, Tryd.ntmps75
  go_upto_region 1 with fail
  generalize w.alloc (.cells #[.int .i64 s, .int .i64 a, .int .i64 c, .int .i64 d, .int .i64 g, .int .i64 k] 23) = w1 at *
  have e1 := in_region (firstEntry_any s a c d g k hc) w1
  have e2 : ∀ w', Below w1.heap.size w1 w' → _ := fun w' hw' => (hh.below hw').cells
  refine region_below (by kernel_rfl) (by kernel_rfl) ?_
  repeat (first | go_big_quiet_skip | (go_big_quiet_want; go_big_quiet_op; first | go_big_quiet_on | (refine ⟨_, fun _ _ => rfl, ?_⟩; go_big_quiet_on) | (refine ⟨_, e1, ?_⟩; go_big_quiet_on) | (refine ⟨.int .i64 c, ?_, ?_⟩; (focus (intro w' hw'; obtain ⟨_, _, l, _⟩ := e2 w' hw'; simp [l, Result.andThen]; done)); go_big_quiet_on) | (refine ⟨.int .i64 d, ?_, ?_⟩; (focus (intro w' hw'; obtain ⟨_, _, _, l, _⟩ := e2 w' hw'; simp [l, Result.andThen]; done)); go_big_quiet_on) | (refine ⟨.agg (cs s a c d g k), ?_, ?_⟩; (focus (intro w' hw'; obtain ⟨l0, l1, l2, l3, l4, l5⟩ := e2 w' hw'; simp [l0, l1, l2, l3, l4, l5, Result.andThen]; done)); go_big_quiet_on)))
  refine wpQuiet_nil ?_
  intro w8 hb8
  replace bel := seq_below bel hb8
  clear e1 e2
  go_wp2
  go_ret
  exact ⟨rfl, bel⟩

set_option linter.unusedSimpArgs false in
set_option maxHeartbeats 1000000 in
theorem firstSlot_any (s a c d g k : Int) (hc : 1 ≤ c ∧ c ≤ 8) (hd : 0 ≤ c * d ∧ c * d ≤ 128) (w : World) : Calls Tryd.prog 61 #[.agg (cs s a c d g k)] w fun e w' => e = .returned (.int .i64 (4 + c + c * d + 2 * c)) ∧ Below w.heap.size w w' := by
  have bel := alloc_below w (.cells #[.int .i64 s, .int .i64 a, .int .i64 c, .int .i64 d, .int .i64 g, .int .i64 k] 23)
  have hh := cfg_new w s a c d g k
  go_enter Tryd.func61, Tryd.ntmps61
  go_upto_region 1 with fail
  generalize w.alloc (.cells #[.int .i64 s, .int .i64 a, .int .i64 c, .int .i64 d, .int .i64 g, .int .i64 k] 23) = w1 at *
  have e1 := in_region (firstView_any s a c d g k hc hd) w1
  have e2 : ∀ w', Below w1.heap.size w1 w' → _ := fun w' hw' => (hh.below hw').cells
  refine region_below (by kernel_rfl) (by kernel_rfl) ?_
  repeat (first | go_big_quiet_skip | (go_big_quiet_want; go_big_quiet_op; first | go_big_quiet_on | (refine ⟨_, fun _ _ => rfl, ?_⟩; go_big_quiet_on) | (refine ⟨_, e1, ?_⟩; go_big_quiet_on) | (refine ⟨.int .i64 c, ?_, ?_⟩; (focus (intro w' hw'; obtain ⟨_, _, l, _⟩ := e2 w' hw'; simp [l, Result.andThen]; done)); go_big_quiet_on) | (refine ⟨.agg (cs s a c d g k), ?_, ?_⟩; (focus (intro w' hw'; obtain ⟨l0, l1, l2, l3, l4, l5⟩ := e2 w' hw'; simp [l0, l1, l2, l3, l4, l5, Result.andThen]; done)); go_big_quiet_on)))
  refine wpQuiet_nil ?_
  intro w8 hb8
  replace bel := seq_below bel hb8
  clear e1 e2
  go_wp2
  go_ret
  exact ⟨rfl, bel⟩
end Go.Proofs.YtjbjijkkmlehgaaDoor
