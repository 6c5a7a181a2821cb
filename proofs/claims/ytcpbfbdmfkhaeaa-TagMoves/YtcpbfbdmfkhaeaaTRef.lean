/- Contracts of the reference's Parts, and of 'awake': the document's examples. -/
import Derived.Test.YtcpbfbdmfkhaeaaTHand
namespace Go.Proofs.Ytcpbfbdmfkhaeaa
open Go.RowKit

set_option maxHeartbeats 2000000 in
theorem rparts_any (h : Nat) (hh : h < 18446744073709551616) (w : World) :
    Calls Try.prog 20 #[.int .u64 h] w fun e w' => e = .returned (.tuple #[.int .i64 (pC h), .int .i64 (pE h), .int .u64 (pT h : Nat), .bool (pOk h)]) ∧ w = w' := by
  have hk := pOk_iff (h := h)
  have i1 : ((h / 72057594037927936 : Nat) : Int) = (h : Int) / 72057594037927936 := by omega
  have i2 : ((h / 281474976710656 % 256 : Nat) : Int) = (h : Int) / 281474976710656 % 256 := by omega
  have b1 : 0 ≤ (h : Int) / 72057594037927936 ∧ (h : Int) / 72057594037927936 ≤ 255 := by omega
  have b2 : 0 ≤ (h : Int) / 281474976710656 % 256 ∧ (h : Int) / 281474976710656 % 256 ≤ 255 := by omega
  have b3 : 0 ≤ (h : Int) % 281474976710656 ∧ (h : Int) % 281474976710656 < 281474976710656 := by omega
  have b0 : 0 ≤ (h : Int) ∧ (h : Int) < 18446744073709551616 := by omega
  cases hb : pOk h
  · have hn : Hid (¬ ((1 ≤ (h : Int) / 72057594037927936 ∧ (h : Int) / 72057594037927936 ≤ 8) ∧ ((h : Int) / 281474976710656 % 256 ≤ 15 ∨ (h : Int) / 281474976710656 % 256 = 255) ∧ 1 ≤ (h : Int) % 281474976710656 ∧ (h : Int) % 281474976710656 < 4294967296)) := by
      intro k
      have := hk.2 (by omega)
      rw [hb] at this; cases this
    have d1 : pC h = 0 := by unfold pC; rw [hb]; rfl
    have d2 : pE h = 0 := by unfold pE; rw [hb]; rfl
    have d3 : pT h = 0 := by unfold pT; rw [hb]; rfl
    rw [d1, d2, d3]
    clear hk hb i1 i2 hh d1 d2 d3
    generalize (h : Int) = H at *
    go_enter Try.func20, Try.ntmps20
    go_wp2
    all_goals first
      | (refine bodyPost_ret (results_tmp4 rfl _ _ _) rfl ?_; exact ⟨rfl, rfl⟩)
      | (exfalso; have := hn.out; omega)
  · have hx := hk.1 hb
    have d1 : Hid (pC h = (h : Int) / 72057594037927936 - 1) := by
      show pC h = _
      unfold pC; rw [hb, if_pos rfl]; omega
    have d2 : Hid (pE h = (h : Int) / 281474976710656 % 256) := by
      show pE h = _
      unfold pE; rw [hb, if_pos rfl]; omega
    have d3 : Hid (((pT h : Nat) : Int) = (h : Int) % 281474976710656) := by
      show ((pT h : Nat) : Int) = _
      unfold pT; rw [hb, if_pos rfl]; omega
    have x1 : 1 ≤ (h : Int) / 72057594037927936 ∧ (h : Int) / 72057594037927936 ≤ 8 := by omega
    have x2 : (h : Int) / 281474976710656 % 256 ≤ 15 ∨ (h : Int) / 281474976710656 % 256 = 255 := by omega
    have x3 : 1 ≤ (h : Int) % 281474976710656 ∧ (h : Int) % 281474976710656 < 4294967296 := by omega
    rw [d1.out, d2.out, d3.out]
    clear hk hb i1 i2 hh hx d1 d2 d3
    generalize (h : Int) = H at *
    have hz : (H % 281474976710656 == 0) = false := by simp; omega
    have hd1 : decide (H / 72057594037927936 < 1) = false := decide_eq_false (by omega)
    have hd2 : decide (8 < H / 72057594037927936) = false := decide_eq_false (by omega)
    have hd3 : decide (4294967296 ≤ H % 281474976710656) = false := decide_eq_false (by omega)
    go_enter Try.func20, Try.ntmps20
    rcases x2 with x2 | x2
    · have hd4 : decide (15 < H / 281474976710656 % 256) = false := decide_eq_false (by omega)
      go_wp2
      refine bodyPost_ret (results_tmp4 rfl _ _ _) rfl ?_
      exact ⟨rfl, rfl⟩
    · go_wp2
      refine bodyPost_ret (results_tmp4 rfl _ _ _) rfl ?_
      exact ⟨by rw [x2]; rfl, rfl⟩

theorem ex_top (w : World) : Calls Try.prog 9 #[.int .u64 1, .int .i64 4] w fun e w' => e = .returned (.tuple #[.int .u64 65541, .bool true]) ∧ Below w.heap.size w w' := top_any 1 4 (by omega) w
theorem ex_hand (w : World) : Calls Try.prog 17 #[.int .i64 0, .int .i64 2, .int .u64 3] w fun e w' => e = .returned (.tuple #[.int .u64 72620543991349251, .bool true]) ∧ Below w.heap.size w w' := by
  have h := handle_any 0 2 3 (by omega) w
  rw [show hOk 0 2 3 = true by decide, show hW 0 2 3 = 72620543991349251 by decide] at h
  exact h
theorem ex_moved (w : World) : Calls Try.prog 16 #[.int .u64 65541, .int .i64 (-1)] w fun e w' => e = .returned (.int .u64 131072) ∧ Below w.heap.size w w' := by
  have h := moved_any 65541 (-1) (by omega) w
  rw [show movedW 65541 (-1) = 131072 by decide] at h
  exact h

set_option maxHeartbeats 400000 in
theorem awake_any (w : World) : Calls Try.prog 12 #[] w fun e w' => e = .returned (.bool true) ∧ Below w.heap.size w w' := by
  have c1 := ex_top
  have c2 := ex_hand
  have c3 := ex_moved
  go_enter Try.func12, Try.ntmps12
  go_wp2_with (first
    | (go_at_call 9; refine (c1 _).mono ?_; rintro e w1 ⟨rfl, b1⟩)
    | (go_at_call 17; refine (c2 _).mono ?_; rintro e w2 ⟨rfl, b2⟩)
    | (go_at_call 16; refine (c3 _).mono ?_; rintro e w3 ⟨rfl, b3⟩))
  go_ret
  exact ⟨rfl, seq_below (seq_below b1 b2) b3⟩
end Go.Proofs.Ytcpbfbdmfkhaeaa
