/- Nothing is appended; a number ahead of a list. -/
import Derived.Test.YteechgmjaagbmabDoorBRq
import Derived.Test.YteechgmjaagbmabDoorBShades
namespace Go.Proofs.YteechgmjaagbmabDoor
open Go.RowKit
open Mm (IsMem MS touched Only IsWords)
open Hh (WT wordOf okW Hr IsHd rightH)

theorem run_append_no (w : World) (ty : TypeId) (Q n m : Nat) (hn : n ≤ m) (ad : Option Addr) (c : Nat) : (Builtin.append_ #[56, 56] ty #[.slice (some ⟨Q, 0, none⟩) n m, .slice ad 0 c]).run Tryd.prog w = .ok (.slice (some ⟨Q, 0, none⟩) n m) w := by
  obtain ⟨i0, hi, hz0, hz1, hz2⟩ := info_parts Tryd.info3
  cases ad <;> simp [Builtin.append_, run_underlying Tryd.underlying56, sizeOf, typeInfo, hi, hn, storeCells, Builtin.lenOf, Builtin.firstCells, loadCells, loadCellsFrom]
theorem wpList_append_no {w : World} {ops : Array Oper} {rest : List Oper} {o : Oper} {a : Act} {Q : Exit → Act → World → Prop} (hgd : o.guard = none) (s x : Operand)
    (ho : o.op = .call { callee := .builtin .append, args := #[s, x], argTypes := #[56, 56] }) (R n m : Nat) (hn : n ≤ m) (hs : a.eval s = .slice (some ⟨R, 0, none⟩) n m) (ad : Option Addr) (c : Nat) (hx : a.eval x = .slice ad 0 c)
    (h : wpList Tryd.prog ops Q rest (a.put o.dst (.slice (some ⟨R, 0, none⟩) n m)) w) : wpList Tryd.prog ops Q (o :: rest) a w := by
  refine wpList_plain hgd fun K hK => ?_
  have hr := run_append_no w o.type R n m hn ad c
  unfold Oper.wp execOp
  simp only [ho, resolve, invoke, builtin, Sem.run_bind, Sem.run_pure, Result.andThen_ok, List.map_toArray, List.map_cons, List.map_nil, hs, hx, hr]
  exact hK _ _ h
theorem isI_one (w : World) (s : Nat) (t : TypeId) (ht : t = 3) : IsI (w.alloc (.cells #[.int .i64 (s : Nat)] t)) (.slice (some ⟨w.heap.size, 0, none⟩) 1 1) [s] := by
  subst ht
  refine .inr ⟨w.heap.size, 0, 1, #[.int .i64 (s : Nat)], rfl, new_obj _ _, Nat.le_refl _, by unfold maxLen; omega, by simp, fun i hi => ?_⟩
  obtain rfl : i = 0 := by simpa using hi
  rfl
theorem fr_nolimbo {S n : Nat} {Z : Nat → Sv} {t : Nat} (h : t ∈ frL S n Z S) : limboW (hwS n Z t) = false := by
  have h8 := (frL_mem (Nat.le_refl _) h).2.2
  unfold limboW
  rw [h8]
  simp
/-- A header that is freed. -/
theorem fd_hv {K : Cf} {W : Nat} (hW : W < 18446744073709551616) (hl : limboW W = true) (hg : 1 ≤ K.g ∧ K.g ≤ 40) :
    (hvW W).k = 3 ∧ 0 ≤ (hvW W).n ∧ (hvW W).n < 4294967296 ∧
    ((K.g ≤ (hvW W).n + 1 ∧ kdW (fdW W K.g) = 4 ∧ hvW (fdW W K.g) = { hvW W with k := 4 }) ∨ (¬ K.g ≤ (hvW W).n + 1 ∧ kdW (fdW W K.g) ≠ 4 ∧ hvW (fdW W K.g) = ⟨0, 0, false, 0, (hvW W).n + 1, 0⟩)) := by
  have hok : okW W = true := by unfold limboW at hl; simp only [Bool.and_eq_true] at hl; exact hl.1
  obtain ⟨Kk, M, g, A, N, S, hr, rfl⟩ := Hh.okW_parts hW hok
  obtain ⟨p0, p1, p2, p3, p4, p5, p6, p7⟩ := Hh.word_parts g hr
  have hk : Kk = 3 := by unfold limboW at hl; rw [p0] at hl; simp only [Bool.and_eq_true, decide_eq_true_eq] at hl; exact hl.2
  subst hk
  have hn := hr.n
  rw [hvW_word g hr]
  refine ⟨rfl, by show (0 : Int) ≤ (N : Int); omega, by show (N : Int) < _; omega, ?_⟩
  by_cases h : K.g ≤ (N : Int) + 1
  · left
    have e : fdW (wordOf 3 M g.toNat A N S) K.g = wordOf 4 M g.toNat A N S := by
      unfold fdW
      rw [if_pos hl, p5, if_neg (by omega)]
      unfold wordOf; omega
    have hr4 : Hr 4 M A N S := ⟨by omega, hr.m, hr.a, hr.n, hr.s⟩
    rw [e, hvW_word g hr4]
    refine ⟨h, ?_, rfl⟩
    unfold kdW
    rw [Hh.okW_word g hr4, if_pos rfl]
    exact (Hh.word_parts g hr4).1
  · right
    have e : fdW (wordOf 3 M g.toNat A N S) K.g = wordOf 0 0 (false : Bool).toNat 0 (N + 1) 0 := by
      unfold fdW
      rw [if_pos hl, p5, if_pos (by omega)]
    have hr0 : Hr 0 0 0 (N + 1) 0 := ⟨by omega, by omega, by omega, by omega, by omega⟩
    rw [e, hvW_word false hr0]
    refine ⟨h, ?_, rfl⟩
    unfold kdW
    rw [Hh.okW_word false hr0, if_pos rfl, (Hh.word_parts false hr0).1]
    omega
theorem hv_kind {W : Nat} : (hvW W).k = 3 ↔ limboW W = true := by
  unfold hvW limboW
  cases okW W
  · simp
  · simp
    omega
end Go.Proofs.YteechgmjaagbmabDoor
/- What the law tells of one slot; no program in sight. -/
namespace Go.Proofs.YteechgmjaagbmabDoor
open Hh (okW)

theorem rc_facts {K : Cf} {X Y F : List Nat} {j : Nat} (hWl : X.getD (K.hd j) 0 < 18446744073709551616) (hYW : Y.getD (K.hd j) 0 = rcW K (X.getD (K.hd j) 0)) (hg : 1 ≤ K.g ∧ K.g ≤ 40) :
    ∃ (hk hm : Int) (hgr : Bool) (ha hn hs : Int), hvW (X.getD (K.hd j) 0) = ⟨hk, hm, hgr, ha, hn, hs⟩ ∧
      ((¬ hk = 3 ∧ hvW (Y.getD (K.hd j) 0) = ⟨hk, hm, hgr, ha, hn, hs⟩ ∧ rbN K X (j + 1) = rbN K X j ∧ rgN K X (j + 1) = rgN K X j ∧ rfL K X F (j + 1) = rfL K X F j) ∨
       (hk = 3 ∧ (0 ≤ hn ∧ hn < 4294967296) ∧ K.g ≤ hn + 1 ∧ hvW (Y.getD (K.hd j) 0) = ⟨4, hm, hgr, ha, hn, hs⟩ ∧ rbN K X (j + 1) = rbN K X j ∧ rgN K X (j + 1) = rgN K X j + 1 ∧ rfL K X F (j + 1) = rfL K X F j) ∨
       (hk = 3 ∧ (0 ≤ hn ∧ hn < 4294967296) ∧ ¬ K.g ≤ hn + 1 ∧ hvW (Y.getD (K.hd j) 0) = ⟨0, 0, false, 0, hn + 1, 0⟩ ∧ rbN K X (j + 1) = rbN K X j + 1 ∧ rgN K X (j + 1) = rgN K X j ∧ rfL K X F (j + 1) = j :: rfL K X F j)) := by
  have hB1 : rbN K X (j + 1) = rbN K X j + (bkB K (X.getD (K.hd j) 0)).toNat := rfl
  have hG1 : rgN K X (j + 1) = rgN K X j + (gnB K (X.getD (K.hd j) 0)).toNat := rfl
  have hF1 : rfL K X F (j + 1) = if bkB K (X.getD (K.hd j) 0) = true then j :: rfL K X F j else rfL K X F j := rfl
  rw [hYW, hB1, hG1, hF1]
  generalize X.getD (K.hd j) 0 = W at *
  generalize rbN K X j = rb
  generalize rgN K X j = rg
  generalize rfL K X F j = fl
  clear hB1 hG1 hF1 hYW
  have hkd := hv_kind (W := W)
  obtain ⟨hv, hhv⟩ : ∃ hv, hvW W = hv := ⟨_, rfl⟩
  by_cases hl : limboW W = true
  · obtain ⟨f1, f2, f3, f4⟩ := fd_hv (K := K) hWl hl hg
    have hr : rcW K W = fdW W K.g := if_pos hl
    unfold bkB gnB
    rw [hr, hl, Bool.true_and, Bool.true_and]
    rw [hhv] at f1 f2 f3 f4 ⊢
    obtain ⟨hk, hm, hgr, ha, hn, hs⟩ := hv
    refine ⟨hk, hm, hgr, ha, hn, hs, rfl, ?_⟩
    rcases f4 with ⟨g1, g2, g3⟩ | ⟨g1, g2, g3⟩
    · right; left
      rw [decide_eq_false (by simpa using g2), decide_eq_true g2, if_neg (by simp)]
      exact ⟨f1, ⟨f2, f3⟩, g1, g3, rfl, rfl, rfl⟩
    · right; right
      rw [decide_eq_true g2, decide_eq_false g2, if_pos rfl]
      exact ⟨f1, ⟨f2, f3⟩, g1, g3, rfl, rfl, rfl⟩
  · have hl' : limboW W = false := by simpa using hl
    have hr : rcW K W = W := if_neg hl
    unfold bkB gnB
    rw [hr, hl', Bool.false_and, Bool.false_and, hhv]
    rw [hhv] at hkd
    obtain ⟨hk, hm, hgr, ha, hn, hs⟩ := hv
    refine ⟨hk, hm, hgr, ha, hn, hs, rfl, .inl ⟨fun c => hl (hkd.1 c), rfl, rfl, rfl, by rw [if_neg (by simp)]⟩⟩
end Go.Proofs.YteechgmjaagbmabDoor
