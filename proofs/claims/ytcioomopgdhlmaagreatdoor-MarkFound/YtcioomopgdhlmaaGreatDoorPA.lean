/- Contracts of plan's small functions, and of the reference's Right and Room. -/
import Derived.Test.YtcioomopgdhlmaaGreatDoorRows
import Derived.WalkKit
import Derived.WalkSpells
import Derived.WalkLawsBesides
import Derived.OpenShut
import Derived.Below
import Derived.BigQuiet
import Derived.RegionTactic
import Derived.ChangeAlike
import Derived.Deep.Cut
namespace Go.Proofs.YtcioomopgdhlmaaGreatDoor
open Go.RowKit

/-- A config's cells. -/
abbrev cs (s a c d g k : Int) : Array Value := #[.int .i64 s, .int .i64 a, .int .i64 c, .int .i64 d, .int .i64 g, .int .i64 k]

/-- A config in a block of its own. -/
def IsCfg (w : World) (B : Nat) (s a c d g k : Int) : Prop := w.heap[B]? = some (.cells #[.int .i64 s, .int .i64 a, .int .i64 c, .int .i64 d, .int .i64 g, .int .i64 k] 23 (0, 0))

theorem IsCfg.cells {w : World} {B : Nat} {s a c d g k : Int} (x : IsCfg w B s a c d g k) :
    w.cell? ⟨B, 0, none⟩ = some (.int .i64 s) ∧ w.cell? ⟨B, 1, none⟩ = some (.int .i64 a) ∧ w.cell? ⟨B, 2, none⟩ = some (.int .i64 c) ∧ w.cell? ⟨B, 3, none⟩ = some (.int .i64 d) ∧ w.cell? ⟨B, 4, none⟩ = some (.int .i64 g) ∧ w.cell? ⟨B, 5, none⟩ = some (.int .i64 k) := by
  have x' : w.heap[B]? = _ := x
  refine ⟨?_, ?_, ?_, ?_, ?_, ?_⟩ <;> simp [World.cell?, x']
theorem IsCfg.lt {w : World} {B : Nat} {s a c d g k : Int} (x : IsCfg w B s a c d g k) : B < w.heap.size := lt_of_block x
theorem IsCfg.below {w w' : World} {B : Nat} {s a c d g k : Int} (x : IsCfg w B s a c d g k) (b : Below w.heap.size w w') : IsCfg w' B s a c d g k := by
  show w'.heap[B]? = _
  rw [b.block B x.lt]; exact x
theorem cfg_new (w : World) (s a c d g k : Int) : IsCfg (w.alloc (.cells #[.int .i64 s, .int .i64 a, .int .i64 c, .int .i64 d, .int .i64 g, .int .i64 k] 23)) w.heap.size s a c d g k := (MapKept.heap_alloc w _).1
theorem seq_below {a b c : World} (h : Below a.heap.size a b) (k : Below b.heap.size b c) : Below a.heap.size a c := h.trans (k.mono h.size)
theorem alloc_below (w : World) (o : Obj) : Below w.heap.size w (w.alloc o) := (Below.refl w.heap.size w).alloc (Nat.le_refl _) _

theorem region_below {P : Program} {id : Nat} {Q : Exit → Act → World → Prop} {a : Act} {w : World} {l : List Oper} (hm : P.follows .mixedOrders = true) (hB : Region.lexB .any l.toArray = true)
    (h : wpQuiet P l.toArray (fun w' => Below w.heap.size w w') (fun a' => ∀ w', Below w.heap.size w w' → Q .normal a' w') l a) : (Code.region id l.toArray true).wp P Q a w :=
  wp_region_quiet (C := fun w' => Below w.heap.size w w') hm hB ⟨rfl, rfl, rfl, Nat.le_refl _, fun _ _ => rfl⟩ (by simpa using h)

def wi (n lo hi : Int) : Bool := decide (lo ≤ n) && decide (n ≤ hi)
def be (i n : Int) : Bool := decide (0 ≤ i) && decide (i < n)
theorem wi_iff {n lo hi : Int} : wi n lo hi = true ↔ lo ≤ n ∧ n ≤ hi := by simp [wi]
theorem be_iff {i n : Int} : be i n = true ↔ 0 ≤ i ∧ i < n := by simp [be]
theorem wi_no {n lo hi : Int} (h : ¬ lo ≤ n) : false = wi n lo hi := by simp [wi, h]
theorem wi_yes {n lo hi : Int} (h : lo ≤ n) : decide (n ≤ hi) = wi n lo hi := by simp [wi, h]
theorem be_no {i n : Int} (h : ¬ 0 ≤ i) : false = be i n := by simp [be, h]
theorem be_yes {i n : Int} (h : 0 ≤ i) : decide (i < n) = be i n := by simp [be, h]

theorem within_any (n lo hi : Int) (w : World) : Calls Tryz.prog 46 #[.int .i64 n, .int .i64 lo, .int .i64 hi] w fun e w' => e = .returned (.bool (wi n lo hi)) ∧ w = w' := by
  go_enter Tryz.func46, Tryz.ntmps46
  go_wp2
  all_goals go_ret
  · exact ⟨congrArg (fun b => Ending.returned (Value.bool b)) (wi_yes (by omega)), rfl⟩
  · exact ⟨congrArg (fun b => Ending.returned (Value.bool b)) (wi_no (by omega)), rfl⟩

theorem isBelow_any (i n : Int) (w : World) : Calls Tryz.prog 73 #[.int .i64 i, .int .i64 n] w fun e w' => e = .returned (.bool (be i n)) ∧ w = w' := by
  go_enter Tryz.func73, Tryz.ntmps73
  go_wp2
  all_goals go_ret
  · exact ⟨congrArg (fun b => Ending.returned (Value.bool b)) (be_yes (by omega)), rfl⟩
  · exact ⟨congrArg (fun b => Ending.returned (Value.bool b)) (be_no (by omega)), rfl⟩

/-- Whether a config is right. -/
def rightB (s a c d g k : Int) : Bool := wi s 1 64 && wi a 0 8 && wi c 1 8 && wi d 1 16 && wi g 1 1048576 && wi k 0 64

theorem rightB_iff {s a c d g k : Int} : rightB s a c d g k = true ↔ (1 ≤ s ∧ s ≤ 64) ∧ (0 ≤ a ∧ a ≤ 8) ∧ (1 ≤ c ∧ c ≤ 8) ∧ (1 ≤ d ∧ d ≤ 16) ∧ (1 ≤ g ∧ g ≤ 1048576) ∧ (0 ≤ k ∧ k ≤ 64) := by
  unfold rightB
  simp only [Bool.and_eq_true, wi_iff]
  omega
theorem bool_of {b : Bool} {P : Prop} [Decidable P] (h : b = true ↔ P) : decide P = b := by
  by_cases hp : P
  · rw [h.2 hp]; simpa using hp
  · have : ¬ b = true := fun k => hp (h.1 k)
    rw [Bool.eq_false_iff.2 this]; simpa using hp
theorem bool_no {b : Bool} {P : Prop} (h : b = true ↔ P) (hp : ¬ P) : false = b := (Bool.eq_false_iff.2 (fun k => hp (h.1 k))).symm

set_option maxHeartbeats 2000000 in
theorem right_any (s a c d g k : Int) (w : World) : Calls Tryz.prog 17 #[.agg (cs s a c d g k)] w fun e w' => e = .returned (.bool (rightB s a c d g k)) ∧ Below w.heap.size w w' := by
  have c1 := within_any s 1 64
  have c2 := within_any a 0 8
  have c3 := within_any c 1 8
  have c4 := within_any d 1 16
  have c5 := within_any g 1 1048576
  have c6 := within_any k 0 64
  unfold rightB
  generalize wi s 1 64 = b1 at *
  generalize wi a 0 8 = b2 at *
  generalize wi c 1 8 = b3 at *
  generalize wi d 1 16 = b4 at *
  generalize wi g 1 1048576 = b5 at *
  generalize wi k 0 64 = b6 at *
  have bel := alloc_below w (.cells #[.int .i64 s, .int .i64 a, .int .i64 c, .int .i64 d, .int .i64 g, .int .i64 k] 23)
  go_enter Tryz.func17, Tryz.ntmps17
  go_wp2_with (go_at_call 46; first | (with_reducible refine (c1 _).mono ?_; rintro e w1 ⟨rfl, rfl⟩) | (with_reducible refine (c2 _).mono ?_; rintro e w1 ⟨rfl, rfl⟩) | (with_reducible refine (c3 _).mono ?_; rintro e w1 ⟨rfl, rfl⟩) | (with_reducible refine (c4 _).mono ?_; rintro e w1 ⟨rfl, rfl⟩) | (with_reducible refine (c5 _).mono ?_; rintro e w1 ⟨rfl, rfl⟩) | (with_reducible refine (c6 _).mono ?_; rintro e w1 ⟨rfl, rfl⟩))
  all_goals go_ret
  all_goals
    clear c1 c2 c3 c4 c5 c6
    refine ⟨congrArg (fun b => Ending.returned (Value.bool b)) ?_, bel⟩
    simp_all

set_option maxHeartbeats 2000000 in
theorem rright_any (s a c d g k : Int) (w : World) : Calls Tryz.prog 26 #[.agg (cs s a c d g k)] w fun e w' => e = .returned (.bool (rightB s a c d g k)) ∧ Below w.heap.size w w' := by
  have bel := alloc_below w (.cells #[.int .i64 s, .int .i64 a, .int .i64 c, .int .i64 d, .int .i64 g, .int .i64 k] 23)
  go_enter Tryz.func26, Tryz.ntmps26
  go_wp2
  all_goals go_ret
  all_goals
    refine ⟨congrArg (fun b => Ending.returned (Value.bool b)) ?_, bel⟩
    first
      | exact bool_no rightB_iff (by omega)
      | exact bool_of (by rw [rightB_iff]; omega)

theorem firstEntry_any (s a c d g k : Int) (hc : 1 ≤ c ∧ c ≤ 8) (w : World) : Calls Tryz.prog 81 #[.agg (cs s a c d g k)] w fun e w' => e = .returned (.int .i64 (4 + c)) ∧ Below w.heap.size w w' := by
  have bel := alloc_below w (.cells #[.int .i64 s, .int .i64 a, .int .i64 c, .int .i64 d, .int .i64 g, .int .i64 k] 23)
  go_enter Tryz.func81, Tryz.ntmps81
  go_wp2
  go_ret
  exact ⟨rfl, bel⟩

/-- How many words a body has. -/
def bsI (a : Int) : Int := if a < 3 then 3 else a

theorem bodySize_any (s a c d g k : Int) (w : World) : Calls Tryz.prog 72 #[.agg (cs s a c d g k)] w fun e w' => e = .returned (.int .i64 (bsI a)) ∧ Below w.heap.size w w' := by
  have bel := alloc_below w (.cells #[.int .i64 s, .int .i64 a, .int .i64 c, .int .i64 d, .int .i64 g, .int .i64 k] 23)
  unfold bsI
  go_enter Tryz.func72, Tryz.ntmps72
  go_wp2
  all_goals go_ret
  all_goals exact ⟨rfl, bel⟩

theorem room_any (s a c d g k : Int) (w : World) : Calls Tryz.prog 37 #[.agg (cs s a c d g k)] w fun e w' => e = .returned (.int .i64 (bsI a)) ∧ Below w.heap.size w w' := by
  have bel := alloc_below w (.cells #[.int .i64 s, .int .i64 a, .int .i64 c, .int .i64 d, .int .i64 g, .int .i64 k] 23)
  unfold bsI
  by_cases h : a < 3
  · rw [if_pos h]
    go_enter Tryz.func37, Tryz.ntmps37
    go_wp2
    go_ret
    exact ⟨rfl, bel⟩
  · rw [if_neg h]
    go_enter Tryz.func37, Tryz.ntmps37
    go_wp2
    go_ret
    exact ⟨rfl, bel⟩

theorem bsI_b (a : Int) (h : 0 ≤ a ∧ a ≤ 8) : 3 ≤ bsI a ∧ bsI a ≤ 8 := by unfold bsI; split <;> omega

set_option maxHeartbeats 1000000 in
theorem slotSize_any (s a c d g k : Int) (ha : 0 ≤ a ∧ a ≤ 8) (w : World) : Calls Tryz.prog 48 #[.agg (cs s a c d g k)] w fun e w' => e = .returned (.int .i64 (2 + bsI a)) ∧ Below w.heap.size w w' := by
  have c1 := bodySize_any s a c d g k
  have hb := bsI_b a ha
  generalize bsI a = B at *
  have bel := alloc_below w (.cells #[.int .i64 s, .int .i64 a, .int .i64 c, .int .i64 d, .int .i64 g, .int .i64 k] 23)
  go_enter Tryz.func48, Tryz.ntmps48
  go_wp2_with (go_at_call 72; refine (c1 _).mono ?_; rintro e w1 ⟨rfl, b⟩; replace bel := seq_below bel b)
  go_ret
  exact ⟨rfl, bel⟩

set_option maxHeartbeats 1000000 in
theorem hasSlot_any (s a c d g k i : Int) (w : World) : Calls Tryz.prog 49 #[.agg (cs s a c d g k), .int .i64 i] w fun e w' => e = .returned (.bool (rightB s a c d g k && be i s)) ∧ Below w.heap.size w w' := by
  have c1 := right_any s a c d g k
  have c2 := isBelow_any i s
  generalize rightB s a c d g k = b1 at *
  generalize be i s = b2 at *
  have hh := cfg_new w s a c d g k
  have bel := alloc_below w (.cells #[.int .i64 s, .int .i64 a, .int .i64 c, .int .i64 d, .int .i64 g, .int .i64 k] 23)
  go_enter Tryz.func49, Tryz.ntmps49
  cases b1
  · go_wp2_with (go_at_call 17; refine (c1 _).mono ?_; rintro e w1 ⟨rfl, b⟩; replace bel := seq_below bel b)
    go_ret
    exact ⟨rfl, bel⟩
  · go_wp2_with (first
      | (go_at_call 17; refine (c1 _).mono ?_; rintro e w1 ⟨rfl, b⟩; replace bel := seq_below bel b; replace hh := (hh.below b).cells)
      | (go_at_call 73; refine (c2 _).mono ?_; rintro e w1 ⟨rfl, rfl⟩))
    go_ret
    exact ⟨rfl, bel⟩

/-- A contract for use within a region of reads and calls that lay blocks. -/
theorem in_region {f : Nat} {args : Array Value} {v : Value} (h : ∀ w, Calls Tryz.prog f args w fun e w' => e = .returned v ∧ Below w.heap.size w w') (w1 : World) :
    ∀ w', Below w1.heap.size w1 w' → Calls Tryz.prog f args w' fun e w'' => e = .returned v ∧ Below w1.heap.size w1 w'' := fun w' hw' => (h w').mono fun _ _ ⟨h1, h2⟩ => ⟨h1, hw'.trans (h2.mono hw'.size)⟩

set_option linter.unusedSimpArgs false in
set_option maxHeartbeats 1000000 in
theorem firstView_any (s a c d g k : Int) (hc : 1 ≤ c ∧ c ≤ 8) (hd : 0 ≤ c * d ∧ c * d ≤ 128) (w : World) : Calls Tryz.prog 71 #[.agg (cs s a c d g k)] w fun e w' => e = .returned (.int .i64 (4 + c + c * d)) ∧ Below w.heap.size w w' := by
  have bel := alloc_below w (.cells #[.int .i64 s, .int .i64 a, .int .i64 c, .int .i64 d, .int .i64 g, .int .i64 k] 23)
  have hh := cfg_new w s a c d g k
  go_enter Tryz.func71, Tryz.ntmps71
  go_upto_region 1 with fail
  generalize w.alloc (.cells #[.int .i64 s, .int .i64 a, .int .i64 c, .int .i64 d, .int .i64 g, .int .i64 k] 23) = w1 at *
  have e1 := in_region (firstEntry_any s a c d g k hc) w1
  have e2 : ∀ w', Below w1.heap.size w1 w' → _ := fun w' hw' => (hh.below hw').cells
  refine region_below (by kernel_rfl) (by kernel_rfl) ?_
  repeat (first | go_big_quiet_skip | (go_big_quiet_want; go_big_quiet_op; first | go_big_quiet_on | (refine ⟨_, fun _ _ => rfl, ?_⟩; go_big_quiet_on) | (refine ⟨_, e1, ?_⟩; go_big_quiet_on) | (refine ⟨.int .i64 c, ?_, ?_⟩; (focus (intro w' hw'; obtain ⟨_, _, l, _⟩ := e2 w' hw'; simp [l, Result.andThen]; done)); go_big_quiet_on) | (refine ⟨.int .i64 d, ?_, ?_⟩; (focus (intro w' hw'; obtain ⟨_, _, _, l, _⟩ := e2 w' hw'; simp [l, Result.andThen]; done)); go_big_quiet_on) | (refine ⟨.agg (cs s a c d g k), ?_, ?_⟩; (focus (intro w' hw'; obtain ⟨l0, l1, l2, l3, l4, l5⟩ := e2 w' hw'; simp [l0, l1, l2, l3, l4, l5, Result.andThen]; done)); go_big_quiet_on)))
  refine wpQuiet_nil ?_
  intro w8 hb8
  replace bel := seq_below bel hb8
  clear e1 e2
  go_wp2
  go_ret
  exact ⟨rfl, bel⟩

set_option linter.unusedSimpArgs false in
set_option maxHeartbeats 1000000 in
theorem firstSlot_any (s a c d g k : Int) (hc : 1 ≤ c ∧ c ≤ 8) (hd : 0 ≤ c * d ∧ c * d ≤ 128) (w : World) : Calls Tryz.prog 47 #[.agg (cs s a c d g k)] w fun e w' => e = .returned (.int .i64 (4 + c + c * d + 2 * c)) ∧ Below w.heap.size w w' := by
  have bel := alloc_below w (.cells #[.int .i64 s, .int .i64 a, .int .i64 c, .int .i64 d, .int .i64 g, .int .i64 k] 23)
  have hh := cfg_new w s a c d g k
  go_enter Tryz.func47, Tryz.ntmps47
  go_upto_region 1 with fail
  generalize w.alloc (.cells #[.int .i64 s, .int .i64 a, .int .i64 c, .int .i64 d, .int .i64 g, .int .i64 k] 23) = w1 at *
  have e1 := in_region (firstView_any s a c d g k hc hd) w1
  have e2 : ∀ w', Below w1.heap.size w1 w' → _ := fun w' hw' => (hh.below hw').cells
  refine region_below (by kernel_rfl) (by kernel_rfl) ?_
  repeat (first | go_big_quiet_skip | (go_big_quiet_want; go_big_quiet_op; first | go_big_quiet_on | (refine ⟨_, fun _ _ => rfl, ?_⟩; go_big_quiet_on) | (refine ⟨_, e1, ?_⟩; go_big_quiet_on) | (refine ⟨.int .i64 c, ?_, ?_⟩; (focus (intro w' hw'; obtain ⟨_, _, l, _⟩ := e2 w' hw'; simp [l, Result.andThen]; done)); go_big_quiet_on) | (refine ⟨.agg (cs s a c d g k), ?_, ?_⟩; (focus (intro w' hw'; obtain ⟨l0, l1, l2, l3, l4, l5⟩ := e2 w' hw'; simp [l0, l1, l2, l3, l4, l5, Result.andThen]; done)); go_big_quiet_on)))
  refine wpQuiet_nil ?_
  intro w8 hb8
  replace bel := seq_below bel hb8
  clear e1 e2
  go_wp2
  go_ret
  exact ⟨rfl, bel⟩
end Go.Proofs.YtcioomopgdhlmaaGreatDoor
/- Contracts of plan's places: Size, Pin, Entry, View, Start, Header, Link, Body, Slot; and of 'awake'. -/
namespace Go.Proofs.YtcioomopgdhlmaaGreatDoor
open Go.RowKit

theorem mul_b {x y X Y : Int} (hx : 0 ≤ x ∧ x ≤ X) (hy : 0 ≤ y ∧ y ≤ Y) : 0 ≤ x * y ∧ x * y ≤ X * Y :=
  ⟨Int.mul_nonneg hx.1 hy.1, Int.mul_le_mul hx.2 hy.2 hy.1 (Int.le_trans hx.1 hx.2)⟩

/-- The numbers of a right config. -/
structure Rt (s a c d : Int) : Prop where
  s : 1 ≤ s ∧ s ≤ 64
  a : 0 ≤ a ∧ a ≤ 8
  c : 1 ≤ c ∧ c ≤ 8
  d : 1 ≤ d ∧ d ≤ 16

theorem rt_of {s a c d g k : Int} (h : rightB s a c d g k = true) : Rt s a c d := by
  have := rightB_iff.1 h
  exact ⟨this.1, this.2.1, this.2.2.1, this.2.2.2.1⟩
theorem Rt.cd {s a c d : Int} (h : Rt s a c d) : 0 ≤ c * d ∧ c * d ≤ 128 := mul_b (X := 8) (Y := 16) (by have := h.c; omega) (by have := h.d; omega)

/-- Where the slots begin, how many words a slot has, how many words there are. -/
def fsI (c d : Int) : Int := 4 + c + c * d + 2 * c
def ssI (a : Int) : Int := 2 + bsI a
def szI (s a c d : Int) : Int := fsI c d + s * ssI a

theorem Rt.fs {s a c d : Int} (h : Rt s a c d) : 7 ≤ fsI c d ∧ fsI c d ≤ 156 := by have := h.cd; have := h.c; unfold fsI; omega
theorem Rt.ss {s a c d : Int} (h : Rt s a c d) : 5 ≤ ssI a ∧ ssI a ≤ 10 := by have := bsI_b a h.a; unfold ssI; omega
theorem Rt.sm {s a c d : Int} (h : Rt s a c d) {i : Int} (hi : 0 ≤ i ∧ i ≤ 64) : 0 ≤ i * ssI a ∧ i * ssI a ≤ 640 := mul_b (X := 64) (Y := 10) hi (by have := h.ss; omega)

theorem firstSlot_r {s a c d : Int} (h : Rt s a c d) (g k : Int) (w : World) : Calls Tryz.prog 47 #[.agg (cs s a c d g k)] w fun e w' => e = .returned (.int .i64 (fsI c d)) ∧ Below w.heap.size w w' := firstSlot_any s a c d g k h.c h.cd w
theorem slotSize_r {s a c d : Int} (h : Rt s a c d) (g k : Int) (w : World) : Calls Tryz.prog 48 #[.agg (cs s a c d g k)] w fun e w' => e = .returned (.int .i64 (ssI a)) ∧ Below w.heap.size w w' := slotSize_any s a c d g k h.a w

set_option maxHeartbeats 1000000 in
theorem header_no {s a c d g k : Int} (i : Int) (hr : (rightB s a c d g k && be i s) = false) (w : World) : Calls Tryz.prog 19 #[.agg (cs s a c d g k), .int .i64 i] w fun e w' => e = .returned (.int .i64 (-1)) ∧ Below w.heap.size w w' := by
  have c1 := hasSlot_any s a c d g k i
  rw [hr] at c1
  have bel := alloc_below w (.cells #[.int .i64 s, .int .i64 a, .int .i64 c, .int .i64 d, .int .i64 g, .int .i64 k] 23)
  have hh := cfg_new w s a c d g k
  go_enter Tryz.func19, Tryz.ntmps19
  go_wp2_with (go_at_call 49; refine (c1 _).mono ?_; rintro e w1 ⟨rfl, b⟩; replace bel := seq_below bel b; replace hh := hh.below b)
  go_ret
  exact ⟨rfl, bel⟩

set_option linter.unusedSimpArgs false in
set_option maxHeartbeats 1000000 in
theorem header_yes {s a c d g k : Int} (i : Int) (hr : rightB s a c d g k = true) (hi : be i s = true) (w : World) : Calls Tryz.prog 19 #[.agg (cs s a c d g k), .int .i64 i] w fun e w' => e = .returned (.int .i64 (fsI c d + i * ssI a)) ∧ Below w.heap.size w w' := by
  have h := rt_of hr
  have c1 := hasSlot_any s a c d g k i
  rw [hr, hi, Bool.true_and] at c1
  have hi' := be_iff.1 hi
  have hs := h.s
  have b1 := h.fs
  have b2 := h.ss
  have b3 := h.sm (i := i) (by omega)
  have f1 := firstSlot_r h g k
  have f2 := slotSize_r h g k
  clear h hr hi
  generalize fsI c d = F at *
  generalize ssI a = S at *
  have bel := alloc_below w (.cells #[.int .i64 s, .int .i64 a, .int .i64 c, .int .i64 d, .int .i64 g, .int .i64 k] 23)
  have hh := cfg_new w s a c d g k
  go_enter Tryz.func19, Tryz.ntmps19
  go_upto_region 3 with (first
    | (go_at_call 49; refine (c1 _).mono ?_; rintro e w1 ⟨rfl, b⟩; replace bel := seq_below bel b; replace hh := hh.below b; obtain ⟨l0, l1, l2, l3, l4, l5⟩ := hh.cells))
  have e1 := in_region f1 w1
  have e3 := in_region f2 w1
  have e2 : ∀ w', Below w1.heap.size w1 w' → _ := fun w' hw' => (hh.below hw').cells
  refine region_below (by kernel_rfl) (by kernel_rfl) ?_
  repeat (first | go_big_quiet_skip | (go_big_quiet_want; go_big_quiet_op; first | go_big_quiet_on | (refine ⟨_, fun _ _ => rfl, ?_⟩; go_big_quiet_on) | (refine ⟨_, e1, ?_⟩; go_big_quiet_on) | (refine ⟨_, e3, ?_⟩; go_big_quiet_on) | (refine ⟨.agg (cs s a c d g k), ?_, ?_⟩; (focus (intro w' hw'; obtain ⟨l0, l1, l2, l3, l4, l5⟩ := e2 w' hw'; simp [l0, l1, l2, l3, l4, l5, Result.andThen]; done)); go_big_quiet_on)))
  refine wpQuiet_nil ?_
  intro w8 hb8
  replace bel := seq_below bel hb8
  clear e1 e2 e3
  go_wp2
  go_ret
  exact ⟨rfl, bel⟩

end Go.Proofs.YtcioomopgdhlmaaGreatDoor
/- Plain facts on the words of a config, one behind the other: no program in sight. -/
namespace Go.Proofs.YtcioomopgdhlmaaGreatDoor

/-- Which word stands at a place: its kind, whose it is, which (C clients, D handles, B words of a body). -/
def wat (C D B p : Nat) : Nat × Nat × Nat :=
  if p < 4 then (p, 0, 0)
  else if p < 4 + C then (4, p - 4, 0)
  else if p < 4 + C + C * D then (5, (p - (4 + C)) / D, (p - (4 + C)) % D)
  else if p < 4 + C + C * D + 2 * C then (6 + (p - (4 + C + C * D)) % 2, (p - (4 + C + C * D)) / 2, 0)
  else (if (p - (4 + C + C * D + 2 * C)) % (2 + B) = 0 then 8 else if (p - (4 + C + C * D + 2 * C)) % (2 + B) = 1 then 9 else 10, (p - (4 + C + C * D + 2 * C)) / (2 + B), (p - (4 + C + C * D + 2 * C)) % (2 + B) - 2)

/-- Where a word stands. -/
def pos (C D B : Nat) (t : Nat × Nat × Nat) : Nat :=
  if t.1 < 4 then t.1
  else if t.1 = 4 then 4 + t.2.1
  else if t.1 = 5 then 4 + C + t.2.1 * D + t.2.2
  else if t.1 = 6 then 4 + C + C * D + 2 * t.2.1
  else if t.1 = 7 then 4 + C + C * D + 2 * t.2.1 + 1
  else if t.1 = 8 then 4 + C + C * D + 2 * C + t.2.1 * (2 + B)
  else if t.1 = 9 then 4 + C + C * D + 2 * C + t.2.1 * (2 + B) + 1
  else 4 + C + C * D + 2 * C + t.2.1 * (2 + B) + 2 + t.2.2

theorem wat_0 (C D B p : Nat) (h : p < 4) : wat C D B p = (p, 0, 0) := by unfold wat; rw [if_pos h]
theorem wat_1 (C D B p : Nat) (h : 4 ≤ p) (h2 : p < 4 + C) : wat C D B p = (4, p - 4, 0) := by
  unfold wat; rw [if_neg (by omega), if_pos h2]
theorem wat_2 (C D B p : Nat) (h : 4 + C ≤ p) (h2 : p < 4 + C + C * D) : wat C D B p = (5, (p - (4 + C)) / D, (p - (4 + C)) % D) := by
  unfold wat; rw [if_neg (by omega), if_neg (by omega), if_pos h2]
theorem wat_3 (C D B p : Nat) (h : 4 + C + C * D ≤ p) (h2 : p < 4 + C + C * D + 2 * C) : wat C D B p = (6 + (p - (4 + C + C * D)) % 2, (p - (4 + C + C * D)) / 2, 0) := by
  unfold wat; rw [if_neg (by omega), if_neg (by omega), if_neg (by omega), if_pos h2]
theorem wat_4 (C D B p : Nat) (h : 4 + C + C * D + 2 * C ≤ p) : wat C D B p = (if (p - (4 + C + C * D + 2 * C)) % (2 + B) = 0 then 8 else if (p - (4 + C + C * D + 2 * C)) % (2 + B) = 1 then 9 else 10, (p - (4 + C + C * D + 2 * C)) / (2 + B), (p - (4 + C + C * D + 2 * C)) % (2 + B) - 2) := by
  unfold wat; rw [if_neg (by omega), if_neg (by omega), if_neg (by omega), if_neg (by omega)]

theorem pos_wat (C D B p : Nat) : pos C D B (wat C D B p) = p := by
  by_cases h0 : p < 4
  · rw [wat_0 C D B p h0]; unfold pos; rw [if_pos h0]
  by_cases h1 : p < 4 + C
  · rw [wat_1 C D B p (by omega) h1]; simp [pos]; omega
  by_cases h2 : p < 4 + C + C * D
  · rw [wat_2 C D B p (by omega) h2]; simp [pos]
    have := Nat.div_add_mod (p - (4 + C)) D
    rw [Nat.mul_comm] at this
    omega
  by_cases h3 : p < 4 + C + C * D + 2 * C
  · rw [wat_3 C D B p (by omega) h3]
    have hm : (p - (4 + C + C * D)) % 2 = 0 ∨ (p - (4 + C + C * D)) % 2 = 1 := by omega
    rcases hm with hm | hm <;> rw [hm] <;> simp [pos] <;> omega
  rw [wat_4 C D B p (by omega)]
  have hd := Nat.div_add_mod' (p - (4 + C + C * D + 2 * C)) (2 + B)
  generalize hr : (p - (4 + C + C * D + 2 * C)) % (2 + B) = r at *
  generalize (p - (4 + C + C * D + 2 * C)) / (2 + B) = q at *
  by_cases r0 : r = 0
  · subst r0; simp [pos]; omega
  by_cases r1 : r = 1
  · subst r1; simp [pos]; omega
  rw [if_neg r0, if_neg r1]; simp [pos]; omega

theorem wat_pin (C D B k : Nat) (h : k < C) : wat C D B (4 + k) = (4, k, 0) := by
  rw [wat_1 C D B _ (by omega) (by omega)]; simp
theorem mul_lt (C D k i : Nat) (h : k < C) (hi : i < D) : k * D + i < C * D := by
  have : (k + 1) * D ≤ C * D := Nat.mul_le_mul_right D h
  rw [Nat.succ_mul] at this; omega
theorem dm_div (D k i : Nat) (hi : i < D) : (k * D + i) / D = k ∧ (k * D + i) % D = i := by
  constructor
  · rw [Nat.mul_comm, Nat.mul_add_div (by omega), Nat.div_eq_of_lt hi]; omega
  · rw [Nat.mul_comm, Nat.mul_add_mod, Nat.mod_eq_of_lt hi]
theorem wat_entry (C D B k i : Nat) (h : k < C) (hi : i < D) : wat C D B (4 + C + k * D + i) = (5, k, i) := by
  have h1 := mul_lt C D k i h hi
  have h2 := dm_div D k i hi
  rw [wat_2 C D B _ (by omega) (by omega), show 4 + C + k * D + i - (4 + C) = k * D + i by omega, h2.1, h2.2]
theorem wat_view (C D B k : Nat) (h : k < C) : wat C D B (4 + C + C * D + 2 * k) = (6, k, 0) := by
  rw [wat_3 C D B _ (by omega) (by omega), show 4 + C + C * D + 2 * k - (4 + C + C * D) = 2 * k by omega]
  simp
theorem wat_start (C D B k : Nat) (h : k < C) : wat C D B (4 + C + C * D + 2 * k + 1) = (7, k, 0) := by
  rw [wat_3 C D B _ (by omega) (by omega), show 4 + C + C * D + 2 * k + 1 - (4 + C + C * D) = 2 * k + 1 by omega]
  have : (2 * k + 1) % 2 = 1 ∧ (2 * k + 1) / 2 = k := by omega
  rw [this.1, this.2]
theorem wat_slot (C D B k i : Nat) (hi : i < 2 + B) : wat C D B (4 + C + C * D + 2 * C + k * (2 + B) + i) = (if i = 0 then 8 else if i = 1 then 9 else 10, k, i - 2) := by
  have h2 := dm_div (2 + B) k i hi
  rw [wat_4 C D B _ (by omega), show 4 + C + C * D + 2 * C + k * (2 + B) + i - (4 + C + C * D + 2 * C) = k * (2 + B) + i by omega, h2.1, h2.2]

/-- How many words there are. -/
def nW (C D B S : Nat) : Nat := 4 + C + C * D + 2 * C + S * (2 + B)

theorem wat_inv {C D B p : Nat} {t : Nat × Nat × Nat} (h : wat C D B p = t) : p = pos C D B t := by rw [← h, pos_wat]

/-- Whose numbers a word of each kind may have. -/
theorem wat_pin_b {C D B p k i : Nat} (h : wat C D B p = (4, k, i)) : k < C ∧ i = 0 := by
  have hp := wat_inv h
  have hp' : p = 4 + k := by simpa [pos] using hp
  by_cases h0 : k < C
  · subst hp'; rw [wat_pin C D B k h0] at h; simp at h; exact ⟨h0, h.symm⟩
  · exfalso
    by_cases h2 : p < 4 + C + C * D
    · rw [wat_2 C D B p (by omega) h2] at h; simp at h
    by_cases h3 : p < 4 + C + C * D + 2 * C
    · rw [wat_3 C D B p (by omega) h3] at h; simp at h; omega
    rw [wat_4 C D B p (by omega)] at h
    simp at h
    have := h.1
    split at this <;> (try omega)
    split at this <;> omega
theorem kind_range {C D B p : Nat} : (p < 4 ∧ (wat C D B p).1 = p) ∨ (4 ≤ p ∧ p < 4 + C ∧ (wat C D B p).1 = 4) ∨ (4 + C ≤ p ∧ p < 4 + C + C * D ∧ (wat C D B p).1 = 5) ∨ (4 + C + C * D ≤ p ∧ p < 4 + C + C * D + 2 * C ∧ ((wat C D B p).1 = 6 ∨ (wat C D B p).1 = 7)) ∨ (4 + C + C * D + 2 * C ≤ p ∧ ((wat C D B p).1 = 8 ∨ (wat C D B p).1 = 9 ∨ (wat C D B p).1 = 10)) := by
  by_cases h0 : p < 4
  · left; rw [wat_0 C D B p h0]; exact ⟨h0, rfl⟩
  right
  by_cases h1 : p < 4 + C
  · left; rw [wat_1 C D B p (by omega) h1]; exact ⟨by omega, h1, rfl⟩
  right
  by_cases h2 : p < 4 + C + C * D
  · left; rw [wat_2 C D B p (by omega) h2]; exact ⟨by omega, h2, rfl⟩
  right
  by_cases h3 : p < 4 + C + C * D + 2 * C
  · left; rw [wat_3 C D B p (by omega) h3]; refine ⟨by omega, h3, ?_⟩; show 6 + _ = 6 ∨ 6 + _ = 7; omega
  right
  rw [wat_4 C D B p (by omega)]
  refine ⟨by omega, ?_⟩
  show (if _ then 8 else if _ then 9 else 10) = 8 ∨ _ ∨ _
  split
  · left; rfl
  · split
    · right; left; rfl
    · right; right; rfl
end Go.Proofs.YtcioomopgdhlmaaGreatDoor
