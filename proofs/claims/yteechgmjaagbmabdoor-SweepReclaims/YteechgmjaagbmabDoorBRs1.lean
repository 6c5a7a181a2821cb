/- What the law tells of one slot; no program in sight. -/
import Derived.Test.YteechgmjaagbmabDoorBRs0
namespace Go.Proofs.YteechgmjaagbmabDoor
open Hh (okW)

theorem rc_facts {K : Cf} {X Y F : List Nat} {j : Nat} (hWl : X.getD (K.hd j) 0 < 18446744073709551616) (hYW : Y.getD (K.hd j) 0 = rcW K (X.getD (K.hd j) 0)) (hg : 1 ≤ K.g ∧ K.g ≤ 40) :
    ∃ (hk hm : Int) (hgr : Bool) (ha hn hs : Int), hvW (X.getD (K.hd j) 0) = ⟨hk, hm, hgr, ha, hn, hs⟩ ∧
      ((¬ hk = 3 ∧ hvW (Y.getD (K.hd j) 0) = ⟨hk, hm, hgr, ha, hn, hs⟩ ∧ rbN K X (j + 1) = rbN K X j ∧ rgN K X (j + 1) = rgN K X j ∧ rfL K X F (j + 1) = rfL K X F j) ∨
       (hk = 3 ∧ (0 ≤ hn ∧ hn < 4294967296) ∧ K.g ≤ hn + 1 ∧ hvW (Y.getD (K.hd j) 0) = ⟨4, hm, hgr, ha, hn, hs⟩ ∧ rbN K X (j + 1) = rbN K X j ∧ rgN K X (j + 1) = rgN K X j + 1 ∧ rfL K X F (j + 1) = rfL K X F j) ∨
       (hk = 3 ∧ (0 ≤ hn ∧ hn < 4294967296) ∧ ¬ K.g ≤ hn + 1 ∧ hvW (Y.getD (K.hd j) 0) = ⟨0, 0, false, 0, hn + 1, 0⟩ ∧ rbN K X (j + 1) = rbN K X j + 1 ∧ rgN K X (j + 1) = rgN K X j ∧ rfL K X F (j + 1) = j :: rfL K X F j)) := by
  have hB1 : rbN K X (j + 1) = rbN K X j + (bkB K (X.getD (K.hd j) 0)).toNat := rfl
  have hG1 : rgN K X (j + 1) = rgN K X j + (gnB K (X.getD (K.hd j) 0)).toNat := rfl
  have hF1 : rfL K X F (j + 1) = if bkB K (X.getD (K.hd j) 0) = true then j :: rfL K X F j else rfL K X F j := rfl
  rw [hYW, hB1, hG1, hF1]
  generalize X.getD (K.hd j) 0 = W at *
  generalize rbN K X j = rb
  generalize rgN K X j = rg
  generalize rfL K X F j = fl
  clear hB1 hG1 hF1 hYW
  have hkd := hv_kind (W := W)
  obtain ⟨hv, hhv⟩ : ∃ hv, hvW W = hv := ⟨_, rfl⟩
  by_cases hl : limboW W = true
  · obtain ⟨f1, f2, f3, f4⟩ := fd_hv (K := K) hWl hl hg
    have hr : rcW K W = fdW W K.g := if_pos hl
    unfold bkB gnB
    rw [hr, hl, Bool.true_and, Bool.true_and]
    rw [hhv] at f1 f2 f3 f4 ⊢
    obtain ⟨hk, hm, hgr, ha, hn, hs⟩ := hv
    refine ⟨hk, hm, hgr, ha, hn, hs, rfl, ?_⟩
    rcases f4 with ⟨g1, g2, g3⟩ | ⟨g1, g2, g3⟩
    · right; left
      rw [decide_eq_false (by simpa using g2), decide_eq_true g2, if_neg (by simp)]
      exact ⟨f1, ⟨f2, f3⟩, g1, g3, rfl, rfl, rfl⟩
    · right; right
      rw [decide_eq_true g2, decide_eq_false g2, if_pos rfl]
      exact ⟨f1, ⟨f2, f3⟩, g1, g3, rfl, rfl, rfl⟩
  · have hl' : limboW W = false := by simpa using hl
    have hr : rcW K W = W := if_neg hl
    unfold bkB gnB
    rw [hr, hl', Bool.false_and, Bool.false_and, hhv]
    rw [hhv] at hkd
    obtain ⟨hk, hm, hgr, ha, hn, hs⟩ := hv
    refine ⟨hk, hm, hgr, ha, hn, hs, rfl, .inl ⟨fun c => hl (hkd.1 c), rfl, rfl, rfl, by rw [if_neg (by simp)]⟩⟩
end Go.Proofs.YteechgmjaagbmabDoor
