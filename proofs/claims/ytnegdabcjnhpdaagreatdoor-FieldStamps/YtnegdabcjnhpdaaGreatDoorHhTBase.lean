/- Contracts of turn's functions and of the law's own small ones. -/
import Derived.Test.YtnegdabcjnhpdaaGreatDoorRows
import Derived.Test.YtnegdabcjnhpdaaGreatDoorHhWhole
import Derived.WalkKit
import Derived.WalkSpells
import Derived.WalkLawsBesides
import Derived.Laws.BitsAllLaws
import Derived.OpenShut
import Derived.Below
import Derived.Deep.QuietTactic
import Derived.Deep.Draws
import Derived.Deep.RegionWith
import Derived.BigQuiet
import Derived.Deep.Cut
namespace Go.Proofs.YtnegdabcjnhpdaaGreatDoor.Hh
open Go.RowKit

/-- The parts of a phase, as words. -/
def phR (q : Nat) : Nat := if q = 0 then 4607182418800017408 else if q = 2 then 13830554455654793216 else 0
def phI (q : Nat) : Nat := if q = 1 then 4607182418800017408 else if q = 3 then 13830554455654793216 else 0
/-- The parts of a phase, as numbers. -/
def qR (q : Nat) : Int := if q = 0 then 1 else if q = 2 then -1 else 0
def qI (q : Nat) : Int := if q = 1 then 1 else if q = 3 then -1 else 0

theorem rep_phR (q : Nat) : Rep (phR q) (qR q) := by
  unfold phR qR
  split
  · exact rep_one
  · split
    · exact rep_minus_one
    · exact rep_zero
theorem rep_phI (q : Nat) : Rep (phI q) (qI q) := by
  unfold phI qI
  split
  · exact rep_one
  · split
    · exact rep_minus_one
    · exact rep_zero

/-- Small enough that no sum of two products by a phase leaves the whole numbers. -/
def Small (a : Int) : Prop := a.natAbs < 2 ^ 50

/-- A number's quarter. -/
def qOf (a b : Int) : Int := if a = 1 ∧ b = 0 then 0 else if a = 0 ∧ b = 1 then 1 else if a = -1 ∧ b = 0 then 2 else if a = 0 ∧ b = -1 then 3 else -1

theorem seq_below {a b c : World} (h : Below a.heap.size a b) (k : Below b.heap.size b c) : Below a.heap.size a c := h.trans (k.mono h.size)

theorem qOf_small {a b : Int} (h : ¬ qOf a b < 0) : a.natAbs ≤ 1 ∧ b.natAbs ≤ 1 := by
  unfold qOf at h
  split at h
  · omega
  · split at h
    · omega
    · split at h
      · omega
      · split at h <;> omega

/-- How many quarters one number lies behind another. -/
def bOf (a b c d : Int) : Int := if qOf a b < 0 ∨ qOf c d < 0 then -1 else qOf (c * a - d * -b) (c * -b + d * a)

theorem mul_small {a b : Int} (ha : a.natAbs ≤ 1) (hb : b.natAbs ≤ 1) : (a * b).natAbs ≤ 1 := by
  rw [Int.natAbs_mul]
  exact Nat.mul_le_mul ha hb

/-- A cycle's black, and what is born in an epoch. -/
def blackOf (e : Nat) : Int := 1 - ((e / 4 % 2 : Nat) : Int)
def bornOf (e : Nat) : Int := if e % 4 = 0 then 1 - blackOf e else blackOf e

theorem cycle_any (e : Nat) (he : e < 18446744073709551616) (w : World) : Calls Tryz.prog 97 #[.int .u64 (e : Nat)] w fun r w' => r = .returned (.int .u64 ((e / 4 : Nat) : Int)) ∧ w = w' := by
  go_enter Tryz.func97, Tryz.ntmps97
  go_wp2
  go_ret
  exact ⟨by simp, rfl⟩

theorem black_any (e : Nat) (he : e < 18446744073709551616) (w : World) : Calls Tryz.prog 91 #[.int .u64 (e : Nat)] w fun r w' => r = .returned (.int .i64 (blackOf e)) ∧ w = w' := by
  go_enter Tryz.func91, Tryz.ntmps91
  go_wp2_with (go_at_call 97; refine (cycle_any e he _).mono ?_; rintro r w1 ⟨rfl, rfl⟩)
  go_ret
  exact ⟨congrArg (fun b => Ending.returned (Value.int .i64 b)) (by unfold blackOf; omega), rfl⟩

theorem black_two (e : Nat) : blackOf e = 0 ∨ blackOf e = 1 := by unfold blackOf; omega

theorem rest_eq (e : Nat) : (FloatKind.f64.format.order (phR (e % 4)) 4607182418800017408 == some .eq && FloatKind.f64.format.order (phI (e % 4)) 0 == some .eq) = decide (e % 4 = 0) := by
  rw [rep_eq (rep_phR _) rep_one, rep_eq (rep_phI _) rep_zero]
  have h4 : e % 4 = 0 ∨ e % 4 = 1 ∨ e % 4 = 2 ∨ e % 4 = 3 := by omega
  rcases h4 with h | h | h | h <;> rw [h] <;> decide

end Go.Proofs.YtnegdabcjnhpdaaGreatDoor.Hh
