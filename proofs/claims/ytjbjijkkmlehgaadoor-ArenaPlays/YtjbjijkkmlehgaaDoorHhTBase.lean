/- Contracts of turn's functions and of the law's own small ones. -/
import Derived.Test.YtjbjijkkmlehgaaDoorRows
import Derived.Test.YtjbjijkkmlehgaaDoorHhWhole
import Derived.WalkKit
import Derived.WalkSpells
import Derived.WalkLawsBesides
import Derived.Laws.BitsAllLaws
import Derived.OpenShut
import Derived.Below
import Derived.Deep.QuietTactic
import Derived.Deep.Draws
import Derived.Deep.RegionWith
import Derived.BigQuiet
import Derived.Deep.Cut
namespace Go.Proofs.YtjbjijkkmlehgaaDoor.Hh
open Go.RowKit

theorem phases_any (w : World) : Calls Tryd.prog 100 #[] w fun e w' =>
    e = .returned (.agg #[.complex .f64 4607182418800017408 0, .complex .f64 0 4607182418800017408, .complex .f64 13830554455654793216 0, .complex .f64 0 13830554455654793216]) ∧ Below w.heap.size w w' := by
  have rs := fun (a : Addr) (x y : Nat) (m : Mode) (w : World) => run_store Tryd.prog w a (.complex .f64 x y) m rfl
  go_enter Tryd.func100, Tryd.ntmps100
  go_wp2
  refine bodyPost_ret (v := .agg #[.complex .f64 4607182418800017408 0, .complex .f64 0 4607182418800017408, .complex .f64 13830554455654793216 0, .complex .f64 0 13830554455654793216]) (by simp [results, Tryd.results100, go_sem]) rfl ?_
  exact ⟨rfl, (Below.refl w.heap.size w).alloc (Nat.le_refl _) _⟩

/-- The parts of a phase, as words. -/
def phR (q : Nat) : Nat := if q = 0 then 4607182418800017408 else if q = 2 then 13830554455654793216 else 0
def phI (q : Nat) : Nat := if q = 1 then 4607182418800017408 else if q = 3 then 13830554455654793216 else 0
/-- The parts of a phase, as numbers. -/
def qR (q : Nat) : Int := if q = 0 then 1 else if q = 2 then -1 else 0
def qI (q : Nat) : Int := if q = 1 then 1 else if q = 3 then -1 else 0

theorem rep_phR (q : Nat) : Rep (phR q) (qR q) := by
  unfold phR qR
  split
  · exact rep_one
  · split
    · exact rep_minus_one
    · exact rep_zero
theorem rep_phI (q : Nat) : Rep (phI q) (qI q) := by
  unfold phI qI
  split
  · exact rep_one
  · split
    · exact rep_minus_one
    · exact rep_zero

theorem idx0 (k : IntKind) (w : World) : (Instr.index 130 (.agg #[.complex .f64 4607182418800017408 0, .complex .f64 0 4607182418800017408, .complex .f64 13830554455654793216 0, .complex .f64 0 13830554455654793216]) (.int k 0)).run Tryd.prog w = .ok (.complex .f64 4607182418800017408 0) w := by kernel_rfl
theorem idx1 (k : IntKind) (w : World) : (Instr.index 130 (.agg #[.complex .f64 4607182418800017408 0, .complex .f64 0 4607182418800017408, .complex .f64 13830554455654793216 0, .complex .f64 0 13830554455654793216]) (.int k 1)).run Tryd.prog w = .ok (.complex .f64 0 4607182418800017408) w := by kernel_rfl
theorem idx2 (k : IntKind) (w : World) : (Instr.index 130 (.agg #[.complex .f64 4607182418800017408 0, .complex .f64 0 4607182418800017408, .complex .f64 13830554455654793216 0, .complex .f64 0 13830554455654793216]) (.int k 2)).run Tryd.prog w = .ok (.complex .f64 13830554455654793216 0) w := by kernel_rfl
theorem idx3 (k : IntKind) (w : World) : (Instr.index 130 (.agg #[.complex .f64 4607182418800017408 0, .complex .f64 0 4607182418800017408, .complex .f64 13830554455654793216 0, .complex .f64 0 13830554455654793216]) (.int k 3)).run Tryd.prog w = .ok (.complex .f64 0 13830554455654793216) w := by kernel_rfl

set_option maxHeartbeats 400000 in
theorem at_any (e : Nat) (w : World) : Calls Tryd.prog 97 #[.int .u64 (e : Nat)] w fun r w' =>
    r = .returned (.complex .f64 (phR (e % 4)) (phI (e % 4))) ∧ Below w.heap.size w w' := by
  have h4 : e % 4 = 0 ∨ e % 4 = 1 ∨ e % 4 = 2 ∨ e % 4 = 3 := by omega
  have i0 := idx0
  have i1 := idx1
  have i2 := idx2
  have i3 := idx3
  rcases h4 with h | h | h | h
  all_goals
    have hi : (e : Int) % 4 = ((e % 4 : Nat) : Int) := by omega
    rw [h] at hi ⊢
    go_enter Tryd.func97, Tryd.ntmps97
    go_wp2_with (go_at_call 100; refine (phases_any _).mono ?_; rintro x w' ⟨rfl, hb⟩)
    go_ret
    exact ⟨rfl, hb⟩

/-- Small enough that no sum of two products by a phase leaves the whole numbers. -/
def Small (a : Int) : Prop := a.natAbs < 2 ^ 50

/-- A number's quarter. -/
def qOf (a b : Int) : Int := if a = 1 ∧ b = 0 then 0 else if a = 0 ∧ b = 1 then 1 else if a = -1 ∧ b = 0 then 2 else if a = 0 ∧ b = -1 then 3 else -1

theorem seq_below {a b c : World} (h : Below a.heap.size a b) (k : Below b.heap.size b c) : Below a.heap.size a c := h.trans (k.mono h.size)

theorem qOf_small {a b : Int} (h : ¬ qOf a b < 0) : a.natAbs ≤ 1 ∧ b.natAbs ≤ 1 := by
  unfold qOf at h
  split at h
  · omega
  · split at h
    · omega
    · split at h
      · omega
      · split at h <;> omega

/-- How many quarters one number lies behind another. -/
def bOf (a b c d : Int) : Int := if qOf a b < 0 ∨ qOf c d < 0 then -1 else qOf (c * a - d * -b) (c * -b + d * a)

theorem mul_small {a b : Int} (ha : a.natAbs ≤ 1) (hb : b.natAbs ≤ 1) : (a * b).natAbs ≤ 1 := by
  rw [Int.natAbs_mul]
  exact Nat.mul_le_mul ha hb

/-- A cycle's black, and what is born in an epoch. -/
def blackOf (e : Nat) : Int := 1 - ((e / 4 % 2 : Nat) : Int)
def bornOf (e : Nat) : Int := if e % 4 = 0 then 1 - blackOf e else blackOf e

theorem cycle_any (e : Nat) (he : e < 18446744073709551616) (w : World) : Calls Tryd.prog 101 #[.int .u64 (e : Nat)] w fun r w' => r = .returned (.int .u64 ((e / 4 : Nat) : Int)) ∧ w = w' := by
  go_enter Tryd.func101, Tryd.ntmps101
  go_wp2
  go_ret
  exact ⟨by simp, rfl⟩

theorem black_any (e : Nat) (he : e < 18446744073709551616) (w : World) : Calls Tryd.prog 98 #[.int .u64 (e : Nat)] w fun r w' => r = .returned (.int .i64 (blackOf e)) ∧ w = w' := by
  go_enter Tryd.func98, Tryd.ntmps98
  go_wp2_with (go_at_call 101; refine (cycle_any e he _).mono ?_; rintro r w1 ⟨rfl, rfl⟩)
  go_ret
  exact ⟨congrArg (fun b => Ending.returned (Value.int .i64 b)) (by unfold blackOf; omega), rfl⟩

theorem black_two (e : Nat) : blackOf e = 0 ∨ blackOf e = 1 := by unfold blackOf; omega

theorem rest_eq (e : Nat) : (FloatKind.f64.format.order (phR (e % 4)) 4607182418800017408 == some .eq && FloatKind.f64.format.order (phI (e % 4)) 0 == some .eq) = decide (e % 4 = 0) := by
  rw [rep_eq (rep_phR _) rep_one, rep_eq (rep_phI _) rep_zero]
  have h4 : e % 4 = 0 ∨ e % 4 = 1 ∨ e % 4 = 2 ∨ e % 4 = 3 := by omega
  rcases h4 with h | h | h | h <;> rw [h] <;> decide

set_option maxHeartbeats 400000 in
theorem born_any (e : Nat) (he : e < 18446744073709551616) (w : World) : Calls Tryd.prog 87 #[.int .u64 (e : Nat)] w fun r w' => r = .returned (.int .i64 (bornOf e)) ∧ Below w.heap.size w w' := by
  have hr := rest_eq e
  have h2 := black_two e
  by_cases h : e % 4 = 0
  · replace hr := hr.trans (c := true) (by simp only [h]; rfl)
    have hb : bornOf e = 1 - blackOf e := by unfold bornOf; rw [if_pos h]
    rw [hb]
    go_enter Tryd.func87, Tryd.ntmps87
    go_wp2_with (first
      | (go_at_call 97; refine (at_any e _).mono ?_; rintro r w1 ⟨rfl, b1⟩)
      | (go_at_call 98; refine (black_any e he _).mono ?_; rintro r w2 ⟨rfl, rfl⟩))
    go_ret
    exact ⟨rfl, b1⟩
  · replace hr := hr.trans (c := false) (by simp only [h]; rfl)
    have hb : bornOf e = blackOf e := by unfold bornOf; rw [if_neg h]
    rw [hb]
    go_enter Tryd.func87, Tryd.ntmps87
    go_wp2_with (first
      | (go_at_call 97; refine (at_any e _).mono ?_; rintro r w1 ⟨rfl, b1⟩)
      | (go_at_call 98; refine (black_any e he _).mono ?_; rintro r w2 ⟨rfl, rfl⟩))
    go_ret
    exact ⟨rfl, b1⟩

theorem phase_any (e : Nat) (w : World) : Calls Tryd.prog 78 #[.int .u64 (e : Nat)] w fun r w' => r = .returned (.int .i64 ((e % 4 : Nat) : Int)) ∧ w = w' := by
  go_enter Tryd.func78, Tryd.ntmps78
  go_wp2
  go_ret
  exact ⟨congrArg (fun b => Ending.returned (Value.int .i64 b)) (by omega), rfl⟩

theorem rblack_any (e : Nat) (he : e < 18446744073709551616) (w : World) : Calls Tryd.prog 79 #[.int .u64 (e : Nat)] w fun r w' => r = .returned (.int .i64 (blackOf e)) ∧ w = w' := by
  by_cases h : (e : Int) / 4 % 2 = 0
  · have hb : blackOf e = 1 := by unfold blackOf; omega
    rw [hb]
    go_enter Tryd.func79, Tryd.ntmps79
    go_wp2
    go_ret
    exact ⟨rfl, rfl⟩
  · have hb : blackOf e = 0 := by unfold blackOf; omega
    rw [hb]
    go_enter Tryd.func79, Tryd.ntmps79
    go_wp2
    go_ret
    exact ⟨rfl, rfl⟩

theorem rborn_any (e : Nat) (he : e < 18446744073709551616) (w : World) : Calls Tryd.prog 66 #[.int .u64 (e : Nat)] w fun r w' => r = .returned (.int .i64 (bornOf e)) ∧ w = w' := by
  have h2 := black_two e
  by_cases h : e % 4 = 0
  · have hb : bornOf e = 1 - blackOf e := by unfold bornOf; rw [if_pos h]
    rw [hb]
    go_enter Tryd.func66, Tryd.ntmps66
    go_wp2_with (first
      | (go_at_call 78; refine (phase_any e _).mono ?_; rintro r w1 ⟨rfl, rfl⟩)
      | (go_at_call 79; refine (rblack_any e he _).mono ?_; rintro r w2 ⟨rfl, rfl⟩))
    go_ret
    exact ⟨rfl, rfl⟩
  · have hb : bornOf e = blackOf e := by unfold bornOf; rw [if_neg h]
    rw [hb]
    have h' : ¬ ((e % 4 : Nat) : Int) = 0 := by omega
    go_enter Tryd.func66, Tryd.ntmps66
    go_wp2_with (first
      | (go_at_call 78; refine (phase_any e _).mono ?_; rintro r w1 ⟨rfl, rfl⟩)
      | (go_at_call 79; refine (rblack_any e he _).mono ?_; rintro r w2 ⟨rfl, rfl⟩))
    go_ret
    exact ⟨rfl, rfl⟩

end Go.Proofs.YtjbjijkkmlehgaaDoor.Hh
