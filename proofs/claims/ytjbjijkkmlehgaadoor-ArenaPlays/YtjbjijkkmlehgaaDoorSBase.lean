/- Contracts of package stack's named, first, NewPop and NewPush. -/
import Derived.Test.YtjbjijkkmlehgaaDoorSHeap
namespace Go.Proofs.YtjbjijkkmlehgaaDoor
open Go.RowKit
open Mm (IsMem MS touched Only)

set_option maxHeartbeats 400000 in
theorem named_any (S : Nat) (hS : S ≤ 64) (a c d g k : Int) (x : Nat) (hx : x < 18446744073709551616) (w : World) :
    Calls Tryd.prog 93 #[.agg (cs S a c d g k), .int .u64 (x : Nat)] w fun e w' => e = .returned (.int .i64 (nmd S x)) ∧ Below w.heap.size w w' := by
  have bel := alloc_below w (.cells #[.int .i64 (S : Nat), .int .i64 a, .int .i64 c, .int .i64 d, .int .i64 g, .int .i64 k] 23)
  by_cases h : S < x
  · have e : nmd S x = -1 := by unfold nmd; rw [if_pos h]
    rw [e]
    go_enter Tryd.func93, Tryd.ntmps93
    go_wp2
    go_ret
    exact ⟨rfl, bel⟩
  · have e : nmd S x = (x : Int) - 1 := by unfold nmd; rw [if_neg h]
    rw [e]
    go_enter Tryd.func93, Tryd.ntmps93
    go_wp2
    go_ret
    exact ⟨rfl, bel⟩

set_option maxHeartbeats 400000 in
theorem first_any (S : Nat) (hS : S ≤ 64) (a c d g k : Int) (t : Nat) (ht : t < 18446744073709551616) (w : World) :
    Calls Tryd.prog 88 #[.agg (cs S a c d g k), .int .u64 (t : Nat)] w fun e w' => e = .returned (.int .i64 (fst S t)) ∧ Below w.heap.size w w' := by
  have bel := alloc_below w (.cells #[.int .i64 (S : Nat), .int .i64 a, .int .i64 c, .int .i64 d, .int .i64 g, .int .i64 k] 23)
  have hh := cfg_new w S a c d g k
  have c1 := Tg.topParts_any t ht
  have c2 := named_any S hS a c d g k (t % 65536) (by omega)
  rw [show nmd S (t % 65536) = fst S t from rfl] at c2
  have hy : 0 ≤ ((t % 65536 : Nat) : Int) ∧ ((t % 65536 : Nat) : Int) < 65536 := by omega
  generalize ((t % 65536 : Nat) : Int) = y at *
  generalize ((t / 65536 : Nat) : Int) = z at *
  generalize fst S t = f at *
  generalize (S : Int) = s at *
  generalize (t : Int) = u at *
  clear hS ht
  go_enter Tryd.func88, Tryd.ntmps88
  go_wp2_with (first
    | (go_at_call 99; refine (c1 _).mono ?_; rintro e w1 ⟨rfl, b⟩; replace bel := seq_below bel b; replace hh := hh.below b; obtain ⟨l0, l1, l2, l3, l4, l5⟩ := hh.cells)
    | (go_at_call 93; refine (c2 _).mono ?_; rintro e w1 ⟨rfl, b⟩; replace bel := seq_below bel b))
  go_ret
  exact ⟨rfl, bel⟩


set_option maxHeartbeats 400000 in
theorem newPop_no {s a c d g k : Int} (hr : rightB s a c d g k = false) (w : World) :
    Calls Tryd.prog 47 #[.agg (cs s a c d g k)] w fun e w' => e = .returned (.pointer none) ∧ Below w.heap.size w w' := by
  have bel := alloc_below w (.cells #[.int .i64 s, .int .i64 a, .int .i64 c, .int .i64 d, .int .i64 g, .int .i64 k] 23)
  have c1 := right_any s a c d g k
  rw [hr] at c1
  clear hr
  go_enter Tryd.func47, Tryd.ntmps47
  go_wp2_with (go_at_call 34; refine (c1 _).mono ?_; rintro e w1 ⟨rfl, b⟩; replace bel := seq_below bel b)
  go_ret
  exact ⟨rfl, bel⟩

set_option maxHeartbeats 400000 in
theorem newPop_yes {s a c d g k : Int} (hr : rightB s a c d g k = true) (w : World) :
    Calls Tryd.prog 47 #[.agg (cs s a c d g k)] w fun e w' => ∃ P, e = .returned (.pointer (some ⟨P, 0, none⟩)) ∧ IsPop w' P s a c d g k (-1) false 0 0 0 ∧ w.heap.size ≤ P ∧ Below w.heap.size w w' := by
  have bel := alloc_below w (.cells #[.int .i64 s, .int .i64 a, .int .i64 c, .int .i64 d, .int .i64 g, .int .i64 k] 23)
  have hh := cfg_new w s a c d g k
  have c1 := right_any s a c d g k
  rw [hr] at c1
  clear hr
  go_enter Tryd.func47, Tryd.ntmps47
  go_wp2_with (go_at_call 34; refine (c1 _).mono ?_; rintro e w1 ⟨rfl, b⟩; replace bel := seq_below bel b; replace hh := hh.below b; obtain ⟨l0, l1, l2, l3, l4, l5⟩ := hh.cells)
  go_ret
  exact ⟨_, rfl, new_obj _ _, bel.size, bel.alloc bel.size _⟩

set_option maxHeartbeats 400000 in
theorem newPush_no {s a c d g k : Int} (i : Int) (hr : (rightB s a c d g k && be i s) = false) (w : World) :
    Calls Tryd.prog 53 #[.agg (cs s a c d g k), .int .i64 i] w fun e w' => e = .returned (.pointer none) ∧ Below w.heap.size w w' := by
  have bel := alloc_below w (.cells #[.int .i64 s, .int .i64 a, .int .i64 c, .int .i64 d, .int .i64 g, .int .i64 k] 23)
  have c1 := link_no i hr
  clear hr
  go_enter Tryd.func53, Tryd.ntmps53
  go_wp2_with (go_at_call 37; refine (c1 _).mono ?_; rintro e w1 ⟨rfl, b⟩; replace bel := seq_below bel b)
  go_ret
  exact ⟨rfl, bel⟩

/-- Where a slot's link stands. -/
theorem link_any {K : Cf} (hK : K.Ok) (s : Nat) (hs : s < K.S) (w : World) :
    Calls Tryd.prog 37 #[.agg K.cs, .int .i64 (s : Nat)] w fun e w' => e = .returned (.int .i64 (K.lk s : Nat)) ∧ Below w.heap.size w w' := by
  have h := link_yes (s := K.S) (a := K.a) (c := K.C) (d := K.D) (g := K.g) (k := K.k) s hK.r (be_iff.2 (by omega)) w
  have e : fsI K.C K.D + (s : Int) * ssI K.a + 1 = ((K.lk s : Nat) : Int) := by
    unfold fsI ssI Cf.lk
    rw [hK.b]
    push_cast
    omega
  rw [e] at h
  exact h

set_option maxHeartbeats 400000 in
theorem newPush_yes {K : Cf} (hK : K.Ok) (i : Nat) (hi : i < K.S) (w : World) :
    Calls Tryd.prog 53 #[.agg K.cs, .int .i64 (i : Nat)] w fun e w' => ∃ P, e = .returned (.pointer (some ⟨P, 0, none⟩)) ∧ IsPush w' P K.S K.a K.C K.D K.g K.k i 0 0 ∧ w.heap.size ≤ P ∧ Below w.heap.size w w' := by
  have c1 := link_any hK i hi
  unfold Cf.cs at *
  have hl : (0 : Int) ≤ (K.lk i : Nat) := by omega
  generalize ((K.lk i : Nat) : Int) = L at *
  generalize (K.S : Int) = s at *
  generalize K.a = a at *
  generalize (K.C : Int) = c at *
  generalize (K.D : Int) = d at *
  generalize K.g = g at *
  generalize K.k = k at *
  generalize (i : Int) = j at *
  clear hK hi
  have bel := alloc_below w (.cells #[.int .i64 s, .int .i64 a, .int .i64 c, .int .i64 d, .int .i64 g, .int .i64 k] 23)
  have hh := cfg_new w s a c d g k
  go_enter Tryd.func53, Tryd.ntmps53
  go_wp2_with (go_at_call 37; refine (c1 _).mono ?_; rintro e w1 ⟨rfl, b⟩; replace bel := seq_below bel b; replace hh := hh.below b; obtain ⟨l0, l1, l2, l3, l4, l5⟩ := hh.cells)
  go_ret
  exact ⟨_, rfl, new_obj _ _, bel.size, bel.alloc bel.size _⟩
end Go.Proofs.YtjbjijkkmlehgaaDoor
