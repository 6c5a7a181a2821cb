/- What a model tells: hasField, Field; refusals; whether a client is full; kinds. -/
import Derived.Test.YtecppcakgfohbabND
namespace Go.Proofs.Ytecppcakgfohbab
open Go.RowKit

set_option maxHeartbeats 1000000 in
theorem hasField_any {w : World} {B : Nat} {L : Nat → Prop} {C : Cg} {n : Nat} {X : Sx} {m : Md} (h : MdOk w B L C n X m) (p i : Int) : Calls Try.prog 70 #[.pointer (some ⟨B, 0, none⟩), .int .i64 p, .int .i64 i] w fun r w' => r = .returned (.bool (decide (0 ≤ p ∧ p < X.F.length) && decide (0 ≤ i ∧ i < ((rowF X p).length : Int)))) ∧ w = w' := by
  have cB := below_any p (X.F.length : Nat)
  obtain ⟨x0, x1, x2, x3, x4, x5, x6, x7, x8⟩ := h.cells
  obtain ⟨ad, cp, hv⟩ := h.vN
  obtain ⟨nF, hnF⟩ : ∃ nF, X.F.length = nF := ⟨_, rfl⟩
  rw [hnF] at hv cB
  rw [hv] at x6
  rw [hnF]
  by_cases hp : 0 ≤ p ∧ p < nF
  · obtain ⟨K, hK⟩ : ∃ K, X.F[p.toNat]? = some K := ⟨_, List.getElem?_eq_getElem (by omega)⟩
    have hrow : rowF X p = K := by unfold rowF; rw [List.getD_eq_getElem?_getD, hK]; rfl
    obtain ⟨gN, ar, cr, rfl, z0, _, _⟩ := h.node hv hK
    obtain ⟨lk, hlk⟩ : ∃ lk, K.length = lk := ⟨_, rfl⟩
    rw [hlk] at z0
    rw [hrow, hlk]
    have cC := below_any i (lk : Nat)
    have e1 : decide (0 ≤ p ∧ p < (nF : Int)) = true := decide_eq_true hp
    have e2 : (decide (0 ≤ p) && decide (p < (nF : Int))) = true := by rw [decide_eq_true hp.1, decide_eq_true hp.2]; rfl
    have e3 : (decide (0 ≤ i) && decide (i < (lk : Int))) = decide (0 ≤ i ∧ i < (lk : Int)) := by rw [Bool.decide_and]
    rw [e1, Bool.true_and]
    rw [e2] at cB
    rw [e3] at cC
    have hp1 := hp.1
    have hp2 := hp.2
    replace cB := hid1 cB
    replace cC := hid1 cC
    generalize decide (0 ≤ i ∧ i < (lk : Int)) = rb at *
    clear hp h hv hK hrow hlk e1 e2 e3 hnF
    go_enter Try.func70, Try.ntmps70
    go_wp2_with (first
      | (go_at_call 66; with_reducible refine (cB.out _).mono ?_; rintro r w1 ⟨rfl, rfl⟩)
      | (go_at_call 66; with_reducible refine (cC.out _).mono ?_; rintro r w1 ⟨rfl, rfl⟩))
    go_ret
    exact ⟨rfl, rfl⟩
  · have e1 : decide (0 ≤ p ∧ p < (nF : Int)) = false := decide_eq_false hp
    have e2 : (decide (0 ≤ p) && decide (p < (nF : Int))) = false := by rw [← Bool.decide_and]; exact e1
    rw [e1, Bool.false_and]
    rw [e2] at cB
    replace cB := hid1 cB
    clear hp h hv e1 e2 hnF
    go_enter Try.func70, Try.ntmps70
    go_wp2_with (go_at_call 66; with_reducible refine (cB.out _).mono ?_; rintro r w1 ⟨rfl, rfl⟩)
    go_ret
    exact ⟨rfl, rfl⟩
theorem hasField_nil (p i : Int) (w : World) : Calls Try.prog 70 #[.pointer none, .int .i64 p, .int .i64 i] w fun r w' => r = .returned (.bool false) ∧ w = w' := by
  go_enter Try.func70, Try.ntmps70
  go_wp2
  go_ret
  exact ⟨rfl, rfl⟩
/-- What a field names; -1. -/
def mfF (X : Sx) (p i : Int) : Int := if (0 ≤ p ∧ p < X.F.length) ∧ 0 ≤ i ∧ i < ((rowF X p).length : Int) then fldF X p i else -1
theorem refusal_any (e : Int) (w : World) : Calls Try.prog 61 #[.int .i64 e] w fun r w' => r = .returned (.agg #[.int .i64 e, .int .u64 0, .bool false]) ∧ Below w.heap.size w w' := by
  go_enter Try.func61, Try.ntmps61
  go_wp2
  refine bodyPost_ret (results_cell_row rfl _ _ _ 39 _ (0, 0) _ rfl (new_obj w _) Try.underlying39 rfl (by kernel_rfl)) rfl ?_
  exact ⟨rfl, alloc_below _ _⟩
/-- Two answers that are the same. -/
def sameA (a h : Int) (y : Bool) (a' h' : Int) (y' : Bool) : Bool := decide (a = a' ∧ h = h' ∧ y = y')
theorem eqA_run (a h : Int) (y : Bool) (a' h' : Int) (y' : Bool) (w : World) : (binOp BinOp.eql 39 (.agg #[.int .i64 a, .int .u64 h, .bool y]) (.agg #[.int .i64 a', .int .u64 h', .bool y'])).run Try.prog w = .ok (.bool (sameA a h y a' h' y')) w := by
  unfold sameA
  by_cases h1 : a = a' <;> by_cases h2 : h = h' <;> by_cases h3 : y = y' <;> simp [go_sem, h1, h2, h3]
theorem neA_run (a h : Int) (y : Bool) (a' h' : Int) (y' : Bool) (w : World) : (binOp BinOp.neq 39 (.agg #[.int .i64 a, .int .u64 h, .bool y]) (.agg #[.int .i64 a', .int .u64 h', .bool y'])).run Try.prog w = .ok (.bool (!sameA a h y a' h' y')) w := by
  unfold sameA
  by_cases h1 : a = a' <;> by_cases h2 : h = h' <;> by_cases h3 : y = y' <;> simp [go_sem, h1, h2, h3]
end Go.Proofs.Ytecppcakgfohbab
