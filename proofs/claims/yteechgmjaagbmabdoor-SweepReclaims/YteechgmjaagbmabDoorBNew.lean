/- The makers of package sweep. -/
import Derived.Test.YteechgmjaagbmabDoorBEnds
namespace Go.Proofs.YteechgmjaagbmabDoor
open Go.RowKit
open Mm (IsMem MS touched Only IsWords)
open Hh (WT)

set_option maxHeartbeats 1000000 in
theorem newSweep_no {s a c d g k : Int} (hr : rightB s a c d g k = false) (e : Nat) (w : World) :
    Calls Tryd.prog 11 #[.agg (cs s a c d g k), .int .u64 (e : Nat)] w fun r w' => r = .returned (.pointer none) ∧ Below w.heap.size w w' := by
  have c1 := right_any s a c d g k
  rw [hr] at c1
  have bel := alloc_below w (.cells #[.int .i64 s, .int .i64 a, .int .i64 c, .int .i64 d, .int .i64 g, .int .i64 k] 23)
  have hh := cfg_new w s a c d g k
  clear hr
  unfold cs at *
  go_enter Tryd.func11, Tryd.ntmps11
  go_upto_region 1 with fail
  generalize w.alloc (.cells #[.int .i64 s, .int .i64 a, .int .i64 c, .int .i64 d, .int .i64 g, .int .i64 k] 23) = w0 at *
  obtain ⟨l0, l1, l2, l3, l4, l5⟩ := hh.cells
  go_wp2_with (go_at_call 35; with_reducible refine (c1 _).mono ?_; rintro r w1 ⟨rfl, b⟩; replace bel := seq_below bel b)
  go_ret
  exact ⟨rfl, bel⟩

set_option maxHeartbeats 2000000 in
theorem newSweep_yes {K : Cf} (hK : K.Ok) (e : Nat) (w : World) :
    Calls Tryd.prog 11 #[.agg K.cs, .int .u64 (e : Nat)] w fun r w' => ∃ P, r = .returned (.pointer (some ⟨P, 0, none⟩)) ∧ NewBlk w w' P #[.int .i64 0, .int .i64 (K.S : Nat), .int .i64 K.a, .int .i64 (K.C : Nat), .int .i64 (K.D : Nat), .int .i64 K.g, .int .i64 K.k, .int .u64 (e : Nat), .int .i64 0, .int .i64 0, .int .u64 0, .int .u64 0] 49 := by
  have c1 := right_any K.S K.a K.C K.D K.g K.k
  rw [hK.r] at c1
  have bel := alloc_below w (.cells #[.int .i64 (K.S : Nat), .int .i64 K.a, .int .i64 (K.C : Nat), .int .i64 (K.D : Nat), .int .i64 K.g, .int .i64 K.k] 23)
  have hh := cfg_new w K.S K.a K.C K.D K.g K.k
  unfold Cf.cs at *
  unfold cs at *
  go_enter Tryd.func11, Tryd.ntmps11
  go_upto_region 1 with fail
  generalize w.alloc (.cells #[.int .i64 (K.S : Nat), .int .i64 K.a, .int .i64 (K.C : Nat), .int .i64 (K.D : Nat), .int .i64 K.g, .int .i64 K.k] 23) = w0 at *
  obtain ⟨l0, l1, l2, l3, l4, l5⟩ := hh.cells
  go_wp2_with (go_at_call 35; with_reducible refine (c1 _).mono ?_; rintro r w1 ⟨rfl, b⟩; replace bel := seq_below bel b; replace hh := hh.below b; clear l0 l1 l2 l3 l4 l5; obtain ⟨l0, l1, l2, l3, l4, l5⟩ := hh.cells)
  go_ret
  exact ⟨_, rfl, ⟨new_obj _ _, bel.size, bel.alloc bel.size _⟩⟩

set_option maxHeartbeats 1000000 in
theorem newReclaim_no {s a c d g k : Int} (hr : rightB s a c d g k = false) (w : World) :
    Calls Tryd.prog 21 #[.agg (cs s a c d g k)] w fun r w' => r = .returned (.pointer none) ∧ Below w.heap.size w w' := by
  have c1 := right_any s a c d g k
  rw [hr] at c1
  have bel := alloc_below w (.cells #[.int .i64 s, .int .i64 a, .int .i64 c, .int .i64 d, .int .i64 g, .int .i64 k] 23)
  have hh := cfg_new w s a c d g k
  clear hr
  unfold cs at *
  go_enter Tryd.func21, Tryd.ntmps21
  go_upto_region 1 with fail
  generalize w.alloc (.cells #[.int .i64 s, .int .i64 a, .int .i64 c, .int .i64 d, .int .i64 g, .int .i64 k] 23) = w0 at *
  obtain ⟨l0, l1, l2, l3, l4, l5⟩ := hh.cells
  go_wp2_with (go_at_call 35; with_reducible refine (c1 _).mono ?_; rintro r w1 ⟨rfl, b⟩; replace bel := seq_below bel b)
  go_ret
  exact ⟨rfl, bel⟩

set_option maxRecDepth 100000 in
set_option maxHeartbeats 2000000 in
theorem newReclaim_yes {K : Cf} (hK : K.Ok) (w : World) :
    Calls Tryd.prog 21 #[.agg K.cs] w fun r w' => ∃ P, r = .returned (.pointer (some ⟨P, 0, none⟩)) ∧ NewBlk w w' P #[.int .i64 0, .int .i64 0, .int .i64 (K.S : Nat), .int .i64 K.a, .int .i64 (K.C : Nat), .int .i64 (K.D : Nat), .int .i64 K.g, .int .i64 K.k, .int .i64 0, .int .i64 0, .bool false, .bool false, .int .i64 0, .int .i64 0, .int .i64 0, .int .i64 0, .int .i64 0, .int .i64 0, .int .i64 0, .int .i64 0, .int .i64 0, .int .i64 0, .int .u64 0, .int .i64 0, .int .u64 0] 63 := by
  have c1 := right_any K.S K.a K.C K.D K.g K.k
  rw [hK.r] at c1
  have bel := alloc_below w (.cells #[.int .i64 (K.S : Nat), .int .i64 K.a, .int .i64 (K.C : Nat), .int .i64 (K.D : Nat), .int .i64 K.g, .int .i64 K.k] 23)
  have hh := cfg_new w K.S K.a K.C K.D K.g K.k
  unfold Cf.cs at *
  unfold cs at *
  go_enter Tryd.func21, Tryd.ntmps21
  go_upto_region 1 with fail
  generalize w.alloc (.cells #[.int .i64 (K.S : Nat), .int .i64 K.a, .int .i64 (K.C : Nat), .int .i64 (K.D : Nat), .int .i64 K.g, .int .i64 K.k] 23) = w0 at *
  obtain ⟨l0, l1, l2, l3, l4, l5⟩ := hh.cells
  go_wp2_with (go_at_call 35; with_reducible refine (c1 _).mono ?_; rintro r w1 ⟨rfl, b⟩; replace bel := seq_below bel b; replace hh := hh.below b; clear l0 l1 l2 l3 l4 l5; obtain ⟨l0, l1, l2, l3, l4, l5⟩ := hh.cells)
  go_ret
  exact ⟨_, rfl, ⟨new_obj _ _, bel.size, bel.alloc bel.size _⟩⟩
end Go.Proofs.YteechgmjaagbmabDoor
