/- Contracts of turn's functions and of the law's own small ones. -/
import Derived.Test.YtjoehcdkiooimabRows
import Derived.Test.YtjoehcdkiooimabWhole
import Derived.WalkKit
import Derived.WalkSpells
import Derived.WalkLawsBesides
import Derived.Laws.BitsAllLaws
import Derived.OpenShut
import Derived.Below
import Derived.Deep.QuietTactic
import Derived.Deep.Draws
import Derived.Deep.RegionWith
import Derived.BigQuiet
import Derived.Deep.Cut
namespace Go.Proofs.Ytjoehcdkiooimab
open Go.RowKit

theorem phases_any (w : World) : Calls Try.prog 12 #[] w fun e w' =>
    e = .returned (.agg #[.complex .f64 4607182418800017408 0, .complex .f64 0 4607182418800017408, .complex .f64 13830554455654793216 0, .complex .f64 0 13830554455654793216]) ∧ Below w.heap.size w w' := by
  have rs := fun (a : Addr) (x y : Nat) (m : Mode) (w : World) => run_store Try.prog w a (.complex .f64 x y) m rfl
  go_enter Try.func12, Try.ntmps12
  go_wp2
  refine bodyPost_ret (v := .agg #[.complex .f64 4607182418800017408 0, .complex .f64 0 4607182418800017408, .complex .f64 13830554455654793216 0, .complex .f64 0 13830554455654793216]) (by simp [results, Try.results12, go_sem]) rfl ?_
  exact ⟨rfl, (Below.refl w.heap.size w).alloc (Nat.le_refl _) _⟩

/-- The parts of a phase, as words. -/
def phR (q : Nat) : Nat := if q = 0 then 4607182418800017408 else if q = 2 then 13830554455654793216 else 0
def phI (q : Nat) : Nat := if q = 1 then 4607182418800017408 else if q = 3 then 13830554455654793216 else 0
/-- The parts of a phase, as numbers. -/
def qR (q : Nat) : Int := if q = 0 then 1 else if q = 2 then -1 else 0
def qI (q : Nat) : Int := if q = 1 then 1 else if q = 3 then -1 else 0

theorem rep_phR (q : Nat) : Rep (phR q) (qR q) := by
  unfold phR qR
  split
  · exact rep_one
  · split
    · exact rep_minus_one
    · exact rep_zero
theorem rep_phI (q : Nat) : Rep (phI q) (qI q) := by
  unfold phI qI
  split
  · exact rep_one
  · split
    · exact rep_minus_one
    · exact rep_zero

theorem idx0 (k : IntKind) (w : World) : (Instr.index 32 (.agg #[.complex .f64 4607182418800017408 0, .complex .f64 0 4607182418800017408, .complex .f64 13830554455654793216 0, .complex .f64 0 13830554455654793216]) (.int k 0)).run Try.prog w = .ok (.complex .f64 4607182418800017408 0) w := by kernel_rfl
theorem idx1 (k : IntKind) (w : World) : (Instr.index 32 (.agg #[.complex .f64 4607182418800017408 0, .complex .f64 0 4607182418800017408, .complex .f64 13830554455654793216 0, .complex .f64 0 13830554455654793216]) (.int k 1)).run Try.prog w = .ok (.complex .f64 0 4607182418800017408) w := by kernel_rfl
theorem idx2 (k : IntKind) (w : World) : (Instr.index 32 (.agg #[.complex .f64 4607182418800017408 0, .complex .f64 0 4607182418800017408, .complex .f64 13830554455654793216 0, .complex .f64 0 13830554455654793216]) (.int k 2)).run Try.prog w = .ok (.complex .f64 13830554455654793216 0) w := by kernel_rfl
theorem idx3 (k : IntKind) (w : World) : (Instr.index 32 (.agg #[.complex .f64 4607182418800017408 0, .complex .f64 0 4607182418800017408, .complex .f64 13830554455654793216 0, .complex .f64 0 13830554455654793216]) (.int k 3)).run Try.prog w = .ok (.complex .f64 0 13830554455654793216) w := by kernel_rfl

set_option maxHeartbeats 400000 in
theorem at_any (e : Nat) (w : World) : Calls Try.prog 8 #[.int .u64 (e : Nat)] w fun r w' =>
    r = .returned (.complex .f64 (phR (e % 4)) (phI (e % 4))) ∧ Below w.heap.size w w' := by
  have h4 : e % 4 = 0 ∨ e % 4 = 1 ∨ e % 4 = 2 ∨ e % 4 = 3 := by omega
  have i0 := idx0
  have i1 := idx1
  have i2 := idx2
  have i3 := idx3
  rcases h4 with h | h | h | h
  all_goals
    have hi : (e : Int) % 4 = ((e % 4 : Nat) : Int) := by omega
    rw [h] at hi ⊢
    go_enter Try.func8, Try.ntmps8
    go_wp2_with (go_at_call 12; refine (phases_any _).mono ?_; rintro x w' ⟨rfl, hb⟩)
    go_ret
    exact ⟨rfl, hb⟩

theorem is_any {x y : Nat} {a b c d : Int} (hx : Rep x a) (hy : Rep y b) (hc : c.natAbs < 2 ^ 53) (hd : d.natAbs < 2 ^ 53) (w : World) :
    Calls Try.prog 10 #[.complex .f64 x y, .int .i64 c, .int .i64 d] w fun r w' => r = .returned (.bool (decide (a = c) && decide (b = d))) ∧ w = w' := by
  have e1 := rep_eq hx (rep_int c hc)
  have e2 := rep_eq hy (rep_int d hd)
  by_cases h1 : a = c
  · have e1' : (FloatKind.f64.format.order x (floatOfInt .f64 c) == some .eq) = true := by rw [e1]; simp [h1]
    clear e1
    go_enter Try.func10, Try.ntmps10
    go_wp2
    go_ret
    refine ⟨?_, rfl⟩
    simp [h1]
  · have e1' : (FloatKind.f64.format.order x (floatOfInt .f64 c) == some .eq) = false := by rw [e1]; simp [h1]
    clear e1
    go_enter Try.func10, Try.ntmps10
    go_wp2
    go_ret
    refine ⟨?_, rfl⟩
    simp [h1]

/-- Small enough that no sum of two products by a phase leaves the whole numbers. -/
def Small (a : Int) : Prop := a.natAbs < 2 ^ 50

theorem conj_any (x : Nat) {y : Nat} {b : Int} (hy : Rep y b) (w : World) :
    Calls Try.prog 14 #[.complex .f64 x y] w fun r w' => (∃ q, r = .returned (.complex .f64 x q) ∧ Rep q (-b)) ∧ w = w' := by
  have hn : ∀ (w : World), (Op.unary .neg (.float .f64 y)).run Try.prog w = .ok (.float .f64 (y ^^^ 2 ^ 63)) w := fun _ => rfl
  go_enter Try.func14, Try.ntmps14
  go_wp2
  go_ret
  exact ⟨⟨_, rfl, rep_neg hy⟩, rfl⟩

/-- A number's quarter. -/
def qOf (a b : Int) : Int := if a = 1 ∧ b = 0 then 0 else if a = 0 ∧ b = 1 then 1 else if a = -1 ∧ b = 0 then 2 else if a = 0 ∧ b = -1 then 3 else -1

set_option maxHeartbeats 1000000 in
theorem quarter_any {x y : Nat} {a b : Int} (hx : Rep x a) (hy : Rep y b) (w : World) :
    Calls Try.prog 13 #[.complex .f64 x y] w fun r w' => r = .returned (.int .i64 (qOf a b)) ∧ Below w.heap.size w w' := by
  have i0 := idx0
  have i1 := idx1
  have i2 := idx2
  have i3 := idx3
  have b0 : (FloatKind.f64.format.order x 4607182418800017408 == some .eq && FloatKind.f64.format.order y 0 == some .eq) = decide (a = 1 ∧ b = 0) := by
    rw [rep_eq hx rep_one, rep_eq hy rep_zero]; exact (Bool.decide_and _ _).symm
  have b1 : (FloatKind.f64.format.order x 0 == some .eq && FloatKind.f64.format.order y 4607182418800017408 == some .eq) = decide (a = 0 ∧ b = 1) := by
    rw [rep_eq hx rep_zero, rep_eq hy rep_one]; exact (Bool.decide_and _ _).symm
  have b2 : (FloatKind.f64.format.order x 13830554455654793216 == some .eq && FloatKind.f64.format.order y 0 == some .eq) = decide (a = -1 ∧ b = 0) := by
    rw [rep_eq hx rep_minus_one, rep_eq hy rep_zero]; exact (Bool.decide_and _ _).symm
  have b3 : (FloatKind.f64.format.order x 0 == some .eq && FloatKind.f64.format.order y 13830554455654793216 == some .eq) = decide (a = 0 ∧ b = -1) := by
    rw [rep_eq hx rep_zero, rep_eq hy rep_minus_one]; exact (Bool.decide_and _ _).symm
  by_cases c0 : a = 1 ∧ b = 0
  · obtain ⟨rfl, rfl⟩ := c0
    replace b0 := b0.trans (c := true) (by decide)
    replace b1 := b1.trans (c := false) (by decide)
    replace b2 := b2.trans (c := false) (by decide)
    replace b3 := b3.trans (c := false) (by decide)
    go_enter Try.func13, Try.ntmps13
    go_wp2_with (go_at_call 12; refine (phases_any _).mono ?_; rintro x w' ⟨rfl, hb⟩)
    refine wp_loop_rounds 1 ?_
    rw [rounds_succ]
    go_wp2
    go_ret
    exact ⟨rfl, hb⟩
  by_cases c1 : a = 0 ∧ b = 1
  · obtain ⟨rfl, rfl⟩ := c1
    replace b0 := b0.trans (c := false) (by decide)
    replace b1 := b1.trans (c := true) (by decide)
    replace b2 := b2.trans (c := false) (by decide)
    replace b3 := b3.trans (c := false) (by decide)
    go_enter Try.func13, Try.ntmps13
    go_wp2_with (go_at_call 12; refine (phases_any _).mono ?_; rintro x w' ⟨rfl, hb⟩)
    refine wp_loop_rounds 2 ?_
    rw [rounds_succ]
    go_wp2
    rw [rounds_succ]
    go_wp2
    go_ret
    exact ⟨rfl, hb⟩
  by_cases c2 : a = -1 ∧ b = 0
  · obtain ⟨rfl, rfl⟩ := c2
    replace b0 := b0.trans (c := false) (by decide)
    replace b1 := b1.trans (c := false) (by decide)
    replace b2 := b2.trans (c := true) (by decide)
    replace b3 := b3.trans (c := false) (by decide)
    go_enter Try.func13, Try.ntmps13
    go_wp2_with (go_at_call 12; refine (phases_any _).mono ?_; rintro x w' ⟨rfl, hb⟩)
    refine wp_loop_rounds 3 ?_
    rw [rounds_succ]
    go_wp2
    rw [rounds_succ]
    go_wp2
    rw [rounds_succ]
    go_wp2
    go_ret
    exact ⟨rfl, hb⟩
  by_cases c3 : a = 0 ∧ b = -1
  · obtain ⟨rfl, rfl⟩ := c3
    replace b0 := b0.trans (c := false) (by decide)
    replace b1 := b1.trans (c := false) (by decide)
    replace b2 := b2.trans (c := false) (by decide)
    replace b3 := b3.trans (c := true) (by decide)
    go_enter Try.func13, Try.ntmps13
    go_wp2_with (go_at_call 12; refine (phases_any _).mono ?_; rintro x w' ⟨rfl, hb⟩)
    refine wp_loop_rounds 4 ?_
    rw [rounds_succ]
    go_wp2
    rw [rounds_succ]
    go_wp2
    rw [rounds_succ]
    go_wp2
    rw [rounds_succ]
    go_wp2
    go_ret
    exact ⟨rfl, hb⟩
  replace b0 := b0.trans (c := false) (by simp only [c0]; rfl)
  replace b1 := b1.trans (c := false) (by simp only [c1]; rfl)
  replace b2 := b2.trans (c := false) (by simp only [c2]; rfl)
  replace b3 := b3.trans (c := false) (by simp only [c3]; rfl)
  have hq : qOf a b = -1 := by unfold qOf; rw [if_neg c0, if_neg c1, if_neg c2, if_neg c3]
  rw [hq]
  clear c0 c1 c2 c3 hq
  go_enter Try.func13, Try.ntmps13
  go_wp2_with (go_at_call 12; refine (phases_any _).mono ?_; rintro x w' ⟨rfl, hb⟩)
  refine wp_loop_rounds 5 ?_
  rw [rounds_succ]
  go_wp2
  rw [rounds_succ]
  go_wp2
  rw [rounds_succ]
  go_wp2
  rw [rounds_succ]
  go_wp2
  rw [rounds_succ]
  go_wp2
  go_ret
  exact ⟨rfl, hb⟩

theorem seq_below {a b c : World} (h : Below a.heap.size a b) (k : Below b.heap.size b c) : Below a.heap.size a c := h.trans (k.mono h.size)

theorem qOf_small {a b : Int} (h : ¬ qOf a b < 0) : a.natAbs ≤ 1 ∧ b.natAbs ≤ 1 := by
  unfold qOf at h
  split at h
  · omega
  · split at h
    · omega
    · split at h
      · omega
      · split at h <;> omega

/-- How many quarters one number lies behind another. -/
def bOf (a b c d : Int) : Int := if qOf a b < 0 ∨ qOf c d < 0 then -1 else qOf (c * a - d * -b) (c * -b + d * a)

theorem mul_small {a b : Int} (ha : a.natAbs ≤ 1) (hb : b.natAbs ≤ 1) : (a * b).natAbs ≤ 1 := by
  rw [Int.natAbs_mul]
  exact Nat.mul_le_mul ha hb

set_option maxHeartbeats 1000000 in
theorem between_any {x y u v : Nat} {a b c d : Int} (hx : Rep x a) (hy : Rep y b) (hu : Rep u c) (hv : Rep v d) (w : World) :
    Calls Try.prog 11 #[.complex .f64 x y, .complex .f64 u v] w fun r w' => r = .returned (.int .i64 (bOf a b c d)) ∧ Below w.heap.size w w' := by
  by_cases h1 : qOf a b < 0
  · have hr : bOf a b c d = -1 := by unfold bOf; rw [if_pos (Or.inl h1)]
    rw [hr]
    clear hr
    go_enter Try.func11, Try.ntmps11
    go_wp2_with (go_at_call 13; with_reducible refine (quarter_any hx hy _).mono ?_; rintro r w1 ⟨rfl, b1⟩)
    go_ret
    exact ⟨rfl, b1⟩
  · by_cases h2 : qOf c d < 0
    · have hr : bOf a b c d = -1 := by unfold bOf; rw [if_pos (Or.inr h2)]
      rw [hr]
      clear hr
      go_enter Try.func11, Try.ntmps11
      go_wp2_with (first
        | (go_at_call 13; with_reducible refine (quarter_any hx hy _).mono ?_; rintro r w1 ⟨rfl, b1⟩)
        | (go_at_call 13; with_reducible refine (quarter_any hu hv _).mono ?_; rintro r w2 ⟨rfl, b2⟩))
      go_ret
      exact ⟨rfl, seq_below b1 b2⟩
    · have hr : bOf a b c d = qOf (c * a - d * -b) (c * -b + d * a) := by unfold bOf; rw [if_neg (by omega)]
      rw [hr]
      clear hr
      obtain ⟨sa, sb⟩ := qOf_small h1
      obtain ⟨sc, sd⟩ := qOf_small h2
      have nb : (-b).natAbs ≤ 1 := by omega
      have m1 := mul_small sc sa
      have m2 := mul_small sd nb
      have m3 := mul_small sc nb
      have m4 := mul_small sd sa
      have hm : ∀ {q : Nat}, Rep q (-b) → ∃ p r, cMulBits u v x q = some (p, r) ∧ Rep p (c * a - d * -b) ∧ Rep r (c * -b + d * a) := fun hq =>
        rep_cmul hu hv hx hq (by omega) (by omega) (by omega) (by omega) (by omega) (by omega)
      clear sa sb sc sd nb m1 m2 m3 m4
      go_enter Try.func11, Try.ntmps11
      go_wp2_with (first
        | (go_at_call 13; with_reducible refine (quarter_any hx hy _).mono ?_; rintro r w1 ⟨rfl, b1⟩)
        | (go_at_call 13; with_reducible refine (quarter_any hu hv _).mono ?_; rintro r w2 ⟨rfl, b2⟩)
        | (go_at_call 14; with_reducible refine (conj_any x hy _).mono ?_; rintro r w3 ⟨⟨q, rfl, hq⟩, rfl⟩; obtain ⟨p, t, he, hp, ht⟩ := hm hq; have hop := fun t' w => run_complex_mul (P := Try.prog) w t' u v x q p t he)
        | (go_at_call 13; with_reducible refine (quarter_any hp ht _).mono ?_; rintro r w4 ⟨rfl, b4⟩))
      go_ret
      exact ⟨rfl, seq_below (seq_below b1 b2) b4⟩

/-- A cycle's black, and what is born in an epoch. -/
def blackOf (e : Nat) : Int := 1 - ((e / 4 % 2 : Nat) : Int)
def bornOf (e : Nat) : Int := if e % 4 = 0 then 1 - blackOf e else blackOf e

theorem cycle_any (e : Nat) (he : e < 18446744073709551616) (w : World) : Calls Try.prog 9 #[.int .u64 (e : Nat)] w fun r w' => r = .returned (.int .u64 ((e / 4 : Nat) : Int)) ∧ w = w' := by
  go_enter Try.func9, Try.ntmps9
  go_wp2
  go_ret
  exact ⟨by simp, rfl⟩

theorem black_any (e : Nat) (he : e < 18446744073709551616) (w : World) : Calls Try.prog 6 #[.int .u64 (e : Nat)] w fun r w' => r = .returned (.int .i64 (blackOf e)) ∧ w = w' := by
  go_enter Try.func6, Try.ntmps6
  go_wp2_with (go_at_call 9; refine (cycle_any e he _).mono ?_; rintro r w1 ⟨rfl, rfl⟩)
  go_ret
  exact ⟨congrArg (fun b => Ending.returned (Value.int .i64 b)) (by unfold blackOf; omega), rfl⟩

theorem black_two (e : Nat) : blackOf e = 0 ∨ blackOf e = 1 := by unfold blackOf; omega

theorem rest_eq (e : Nat) : (FloatKind.f64.format.order (phR (e % 4)) 4607182418800017408 == some .eq && FloatKind.f64.format.order (phI (e % 4)) 0 == some .eq) = decide (e % 4 = 0) := by
  rw [rep_eq (rep_phR _) rep_one, rep_eq (rep_phI _) rep_zero]
  have h4 : e % 4 = 0 ∨ e % 4 = 1 ∨ e % 4 = 2 ∨ e % 4 = 3 := by omega
  rcases h4 with h | h | h | h <;> rw [h] <;> decide

set_option maxHeartbeats 400000 in
theorem born_any (e : Nat) (he : e < 18446744073709551616) (w : World) : Calls Try.prog 5 #[.int .u64 (e : Nat)] w fun r w' => r = .returned (.int .i64 (bornOf e)) ∧ Below w.heap.size w w' := by
  have hr := rest_eq e
  have h2 := black_two e
  by_cases h : e % 4 = 0
  · replace hr := hr.trans (c := true) (by simp only [h]; rfl)
    have hb : bornOf e = 1 - blackOf e := by unfold bornOf; rw [if_pos h]
    rw [hb]
    go_enter Try.func5, Try.ntmps5
    go_wp2_with (first
      | (go_at_call 8; refine (at_any e _).mono ?_; rintro r w1 ⟨rfl, b1⟩)
      | (go_at_call 6; refine (black_any e he _).mono ?_; rintro r w2 ⟨rfl, rfl⟩))
    go_ret
    exact ⟨rfl, b1⟩
  · replace hr := hr.trans (c := false) (by simp only [h]; rfl)
    have hb : bornOf e = blackOf e := by unfold bornOf; rw [if_neg h]
    rw [hb]
    go_enter Try.func5, Try.ntmps5
    go_wp2_with (first
      | (go_at_call 8; refine (at_any e _).mono ?_; rintro r w1 ⟨rfl, b1⟩)
      | (go_at_call 6; refine (black_any e he _).mono ?_; rintro r w2 ⟨rfl, rfl⟩))
    go_ret
    exact ⟨rfl, b1⟩

set_option maxHeartbeats 1000000 in
theorem awake_any (w : World) : Calls Try.prog 7 #[] w fun r w' => r = .returned (.bool true) ∧ Below w.heap.size w w' := by
  have c1 := fun w => at_any 6 w
  have c2 := fun w => at_any 3 w
  have c3 := fun w => at_any 5 w
  have c4 := fun w => is_any (c := -1) (d := 0) (rep_phR (6 % 4)) (rep_phI (6 % 4)) (by decide) (by decide) w
  have c5 := fun w => between_any (rep_phR (3 % 4)) (rep_phI (3 % 4)) (rep_phR (5 % 4)) (rep_phI (5 % 4)) w
  have c6 := fun w => born_any 5 (by decide) w
  have c7 := fun w => born_any 4 (by decide) w
  have e5 : bOf (qR (3 % 4)) (qI (3 % 4)) (qR (5 % 4)) (qI (5 % 4)) = 2 := by decide
  have e6 : bornOf 5 = 0 := by decide
  have e7 : bornOf 4 = 1 := by decide
  have e4 : (decide (qR (6 % 4) = -1) && decide (qI (6 % 4) = 0)) = true := by decide
  rw [e4] at c4
  rw [e5] at c5
  rw [e6] at c6
  rw [e7] at c7
  clear e4 e5 e6 e7
  go_enter Try.func7, Try.ntmps7
  go_wp2_with (first
    | (go_at_call_of 8 (Value.int .u64 6); refine (c1 _).mono ?_; rintro r w1 ⟨rfl, b1⟩)
    | (go_at_call_of 8 (Value.int .u64 3); refine (c2 _).mono ?_; rintro r w2 ⟨rfl, b2⟩)
    | (go_at_call_of 8 (Value.int .u64 5); refine (c3 _).mono ?_; rintro r w3 ⟨rfl, b3⟩)
    | (go_at_call 10; refine (c4 _).mono ?_; rintro r w4 ⟨rfl, rfl⟩)
    | (go_at_call 11; refine (c5 _).mono ?_; rintro r w5 ⟨rfl, b5⟩)
    | (go_at_call_of 5 (Value.int .u64 5); refine (c6 _).mono ?_; rintro r w6 ⟨rfl, b6⟩)
    | (go_at_call_of 5 (Value.int .u64 4); refine (c7 _).mono ?_; rintro r w7 ⟨rfl, b7⟩))
  go_ret
  exact ⟨rfl, seq_below (seq_below (seq_below (seq_below (seq_below b1 b2) b3) b5) b6) b7⟩
end Go.Proofs.Ytjoehcdkiooimab
