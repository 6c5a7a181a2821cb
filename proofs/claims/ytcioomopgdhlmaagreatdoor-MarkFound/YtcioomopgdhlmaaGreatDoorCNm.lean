/- NewMark where there is one. -/
import Derived.Test.YtcioomopgdhlmaaGreatDoorCAw0
namespace Go.Proofs.YtcioomopgdhlmaaGreatDoor
open Go.RowKit
open Mm (IsMem MS touched Only IsWords)
open Hh (WT okW wordOf IsHd)

set_option maxRecDepth 100000 in
theorem nm_at (K : Cf) (e : Nat) : KmAt ((((((((Tryz.zeroCells82.setIfInBounds 2 (.int .i64 (K.S : Nat))).setIfInBounds 3 (.int .i64 K.a)).setIfInBounds 4 (.int .i64 (K.C : Nat))).setIfInBounds 5 (.int .i64 (K.D : Nat))).setIfInBounds 6 (.int .i64 K.g)).setIfInBounds 7 (.int .i64 K.k)).setIfInBounds 8 (.int .u64 (e : Nat)))) 0 K (km0 e) := by
  constructor
  case sd => constructor <;> kernel_rfl
  case wt =>
    intro i hi
    match i, hi with
    | 0, _ => show (_ : Option Value) = _; kernel_rfl
    | 1, _ => show (_ : Option Value) = _; kernel_rfl
    | 2, _ => show (_ : Option Value) = _; kernel_rfl
    | 3, _ => show (_ : Option Value) = _; kernel_rfl
    | 4, _ => show (_ : Option Value) = _; kernel_rfl
    | 5, _ => show (_ : Option Value) = _; kernel_rfl
    | 6, _ => show (_ : Option Value) = _; kernel_rfl
    | 7, _ => show (_ : Option Value) = _; kernel_rfl
    | 8, _ => show (_ : Option Value) = _; kernel_rfl
    | 9, _ => show (_ : Option Value) = _; kernel_rfl
    | 10, _ => show (_ : Option Value) = _; kernel_rfl
    | 11, _ => show (_ : Option Value) = _; kernel_rfl
    | 12, _ => show (_ : Option Value) = _; kernel_rfl
    | 13, _ => show (_ : Option Value) = _; kernel_rfl
    | 14, _ => show (_ : Option Value) = _; kernel_rfl
    | 15, _ => show (_ : Option Value) = _; kernel_rfl
    | 16, _ => show (_ : Option Value) = _; kernel_rfl
    | 17, _ => show (_ : Option Value) = _; kernel_rfl
    | 18, _ => show (_ : Option Value) = _; kernel_rfl
    | 19, _ => show (_ : Option Value) = _; kernel_rfl
    | 20, _ => show (_ : Option Value) = _; kernel_rfl
    | 21, _ => show (_ : Option Value) = _; kernel_rfl
    | 22, _ => show (_ : Option Value) = _; kernel_rfl
    | 23, _ => show (_ : Option Value) = _; kernel_rfl
    | 24, _ => show (_ : Option Value) = _; kernel_rfl
    | 25, _ => show (_ : Option Value) = _; kernel_rfl
    | 26, _ => show (_ : Option Value) = _; kernel_rfl
    | 27, _ => show (_ : Option Value) = _; kernel_rfl
    | 28, _ => show (_ : Option Value) = _; kernel_rfl
    | 29, _ => show (_ : Option Value) = _; kernel_rfl
    | 30, _ => show (_ : Option Value) = _; kernel_rfl
    | 31, _ => show (_ : Option Value) = _; kernel_rfl
    | 32, _ => show (_ : Option Value) = _; kernel_rfl
    | 33, _ => show (_ : Option Value) = _; kernel_rfl
    | 34, _ => show (_ : Option Value) = _; kernel_rfl
    | 35, _ => show (_ : Option Value) = _; kernel_rfl
    | 36, _ => show (_ : Option Value) = _; kernel_rfl
    | 37, _ => show (_ : Option Value) = _; kernel_rfl
    | 38, _ => show (_ : Option Value) = _; kernel_rfl
    | 39, _ => show (_ : Option Value) = _; kernel_rfl
    | 40, _ => show (_ : Option Value) = _; kernel_rfl
    | 41, _ => show (_ : Option Value) = _; kernel_rfl
    | 42, _ => show (_ : Option Value) = _; kernel_rfl
    | 43, _ => show (_ : Option Value) = _; kernel_rfl
    | 44, _ => show (_ : Option Value) = _; kernel_rfl
    | 45, _ => show (_ : Option Value) = _; kernel_rfl
    | 46, _ => show (_ : Option Value) = _; kernel_rfl
    | 47, _ => show (_ : Option Value) = _; kernel_rfl
    | 48, _ => show (_ : Option Value) = _; kernel_rfl
    | 49, _ => show (_ : Option Value) = _; kernel_rfl
    | 50, _ => show (_ : Option Value) = _; kernel_rfl
    | 51, _ => show (_ : Option Value) = _; kernel_rfl
    | 52, _ => show (_ : Option Value) = _; kernel_rfl
    | 53, _ => show (_ : Option Value) = _; kernel_rfl
    | 54, _ => show (_ : Option Value) = _; kernel_rfl
    | 55, _ => show (_ : Option Value) = _; kernel_rfl
    | 56, _ => show (_ : Option Value) = _; kernel_rfl
    | 57, _ => show (_ : Option Value) = _; kernel_rfl
    | 58, _ => show (_ : Option Value) = _; kernel_rfl
    | 59, _ => show (_ : Option Value) = _; kernel_rfl
    | 60, _ => show (_ : Option Value) = _; kernel_rfl
    | 61, _ => show (_ : Option Value) = _; kernel_rfl
    | 62, _ => show (_ : Option Value) = _; kernel_rfl
    | 63, _ => show (_ : Option Value) = _; kernel_rfl
    | n + 64, h => exact absurd h (by omega)
  all_goals kernel_rfl

set_option maxRecDepth 100000 in
set_option maxHeartbeats 4000000 in
theorem newMark_yes {K : Cf} (hK : K.Ok) (e : Nat) (w : World) :
    Calls Tryz.prog 13 #[.agg K.cs, .int .u64 (e : Nat)] w fun r w' => ∃ P c, r = .returned (.pointer (some ⟨P, 0, none⟩)) ∧ NewBlk w w' P c 82 ∧ KmAt c 0 K (km0 e) := by
  have c1 := right_any K.S K.a K.C K.D K.g K.k
  rw [hK.r] at c1
  have bel := alloc_below w (.cells #[.int .i64 (K.S : Nat), .int .i64 K.a, .int .i64 (K.C : Nat), .int .i64 (K.D : Nat), .int .i64 K.g, .int .i64 K.k] 23)
  have hh := cfg_new w K.S K.a K.C K.D K.g K.k
  unfold Cf.cs at *
  unfold cs at *
  go_enter Tryz.func13, Tryz.ntmps13
  go_upto_region 1 with fail
  generalize w.alloc (.cells #[.int .i64 (K.S : Nat), .int .i64 K.a, .int .i64 (K.C : Nat), .int .i64 (K.D : Nat), .int .i64 K.g, .int .i64 K.k] 23) = w0 at *
  obtain ⟨l0, l1, l2, l3, l4, l5⟩ := hh.cells
  go_wp2_with (go_at_call 17; with_reducible refine (c1 _).mono ?_; rintro r w1 ⟨rfl, b⟩; replace bel := seq_below bel b; replace hh := hh.below b; clear l0 l1 l2 l3 l4 l5; obtain ⟨l0, l1, l2, l3, l4, l5⟩ := hh.cells)
  go_ret
  exact ⟨_, _, rfl, ⟨new_obj _ _, bel.size, bel.alloc bel.size _⟩, nm_at K e⟩
end Go.Proofs.YtcioomopgdhlmaaGreatDoor
