/- The law's 'ends', over any machine that takes one touch a step. -/
import Derived.Test.YteechgmjaagbmabDoorBRe2
import Derived.Test.YteechgmjaagbmabDoorAB
namespace Go.Proofs.YteechgmjaagbmabDoor
open Go.RowKit
open Mm (IsMem MS touched Only IsWords)
open Hh (WT)

theorem hide {p : Prop} (h : p) : Hid p := h

theorem nil_sw (a : Addr) (w : World) : (nilAhead 238 32 (.pointer (some a)) "Step").run Tryd.prog w = .ok (some false) w := by kernel_rfl
theorem method_sw (a : Addr) (w : World) : (method 238 32 (.pointer (some a)) "Step").run Tryd.prog w = .ok (20, .pointer (some a)) w := by kernel_rfl
set_option maxHeartbeats 4000000 in
theorem ends_sw {w : World} {M P : Nat} {I : Nat → World → Prop} {n most : Nat} {T0 : Nat} (h0 : I 0 w) (h1 : 1 ≤ n) (hn : n ≤ most) (hm : most < 4611686018427387904) (hT : T0 + n < 4611686018427387904)
    (ht : ∀ k wr, I k wr → Calls Tryd.prog 19 #[.pointer (some ⟨M, 0, none⟩)] wr fun e w' => e = .returned (.int .i64 ((T0 + k : Nat) : Int)) ∧ wr = w')
    (hs : ∀ k wr, k < n → I k wr → Calls Tryd.prog 20 #[.pointer (some ⟨P, 0, none⟩), .pointer (some ⟨M, 0, none⟩)] wr fun e w' => e = .returned (.bool (decide (k + 1 = n))) ∧ I (k + 1) w') :
    Calls Tryd.prog 12 #[.iface 32 (.pointer (some ⟨P, 0, none⟩)), .pointer (some ⟨M, 0, none⟩), .int .i64 (most : Nat)] w fun e w' => e = .returned (.bool true) ∧ I n w' := by
  have na := nil_sw ⟨P, 0, none⟩
  have me := method_sw ⟨P, 0, none⟩
  have HT := hide ht
  have HS := hide hs
  have H0 : Hid (I 0 w) := h0
  clear ht hs h0
  go_enter Tryd.func12, Tryd.ntmps12
  go_wp2
  go_loopw [7] (fun i wr => ∃ k : Nat, k < n ∧ i = .int .i64 k ∧ Hid (I k wr)) (fun i _ => n - (intOf i).toNat)
  case atStart => exact ⟨0, by omega, rfl, H0⟩
  case round =>
    obtain ⟨k, hk, rfl, hI⟩ := hrel
    clear H0
    have hk1 : (k : Int) < (most : Int) := by omega
    have q1 := HT.out k wr hI.out
    have q2 := HS.out k wr hk hI.out
    generalize hTk : T0 + k = tk at *
    have e1 : IntKind.i64.wrap ((tk : Int) + 1) = ((tk + 1 : Nat) : Int) := by rw [IntKind.wrap_i64]; omega
    have q3 : ∀ wr, I (k + 1) wr → Calls Tryd.prog 19 #[.pointer (some ⟨M, 0, none⟩)] wr fun e w' => e = .returned (.int .i64 ((tk + 1 : Nat) : Int)) ∧ wr = w' := fun wr x => by have h := HT.out (k + 1) wr x; rw [show T0 + (k + 1) = tk + 1 by omega] at h; exact h
    have Q3 := hide q3
    clear q3
    have e2 : decide (((tk + 1 : Nat) : Int) < ((tk + 1 : Nat) : Int)) = false := by simp
    have e3 : IntKind.i64.wrap ((k : Int) + 1) = ((k + 1 : Nat) : Int) := by rw [IntKind.wrap_i64]; omega
    generalize ht1 : tk + 1 = tl at *
    generalize hk2 : k + 1 = k1 at *
    by_cases hl : k1 = n
    · rw [decide_eq_true hl] at q2
      go_wp2_with (first
        | (go_at_call 19; with_reducible refine q1.mono ?_; rintro e w1 ⟨rfl, rfl⟩)
        | (go_at_call 20; with_reducible refine q2.mono ?_; rintro e w1 ⟨rfl, i2⟩; have I2 := hide i2; clear i2)
        | (go_at_call 19; with_reducible refine (Q3.out _ I2.out).mono ?_; rintro e w1 ⟨rfl, rfl⟩))
      go_ret
      subst hl
      exact ⟨rfl, I2.out⟩
    · rw [decide_eq_false hl] at q2
      go_wp2_with (first
        | (go_at_call 19; with_reducible refine q1.mono ?_; rintro e w1 ⟨rfl, rfl⟩)
        | (go_at_call 20; with_reducible refine q2.mono ?_; rintro e w1 ⟨rfl, i2⟩; have I2 := hide i2; clear i2)
        | (go_at_call 19; with_reducible refine (Q3.out _ I2.out).mono ?_; rintro e w1 ⟨rfl, rfl⟩))
      go_roundw
      case rel => exact ⟨k1, by omega, rfl, I2⟩
      case measure => simp [intOf]; omega

theorem nil_re (a : Addr) (w : World) : (nilAhead 238 52 (.pointer (some a)) "Step").run Tryd.prog w = .ok (some false) w := by kernel_rfl
theorem method_re (a : Addr) (w : World) : (method 238 52 (.pointer (some a)) "Step").run Tryd.prog w = .ok (25, .pointer (some a)) w := by kernel_rfl
set_option maxHeartbeats 4000000 in
theorem ends_re {w : World} {M P : Nat} {I : Nat → World → Prop} {n most : Nat} {T0 : Nat} (h0 : I 0 w) (h1 : 1 ≤ n) (hn : n ≤ most) (hm : most < 4611686018427387904) (hT : T0 + n < 4611686018427387904)
    (ht : ∀ k wr, I k wr → Calls Tryd.prog 19 #[.pointer (some ⟨M, 0, none⟩)] wr fun e w' => e = .returned (.int .i64 ((T0 + k : Nat) : Int)) ∧ wr = w')
    (hs : ∀ k wr, k < n → I k wr → Calls Tryd.prog 25 #[.pointer (some ⟨P, 0, none⟩), .pointer (some ⟨M, 0, none⟩)] wr fun e w' => e = .returned (.bool (decide (k + 1 = n))) ∧ I (k + 1) w') :
    Calls Tryd.prog 12 #[.iface 52 (.pointer (some ⟨P, 0, none⟩)), .pointer (some ⟨M, 0, none⟩), .int .i64 (most : Nat)] w fun e w' => e = .returned (.bool true) ∧ I n w' := by
  have na := nil_re ⟨P, 0, none⟩
  have me := method_re ⟨P, 0, none⟩
  have HT := hide ht
  have HS := hide hs
  have H0 : Hid (I 0 w) := h0
  clear ht hs h0
  go_enter Tryd.func12, Tryd.ntmps12
  go_wp2
  go_loopw [7] (fun i wr => ∃ k : Nat, k < n ∧ i = .int .i64 k ∧ Hid (I k wr)) (fun i _ => n - (intOf i).toNat)
  case atStart => exact ⟨0, by omega, rfl, H0⟩
  case round =>
    obtain ⟨k, hk, rfl, hI⟩ := hrel
    clear H0
    have hk1 : (k : Int) < (most : Int) := by omega
    have q1 := HT.out k wr hI.out
    have q2 := HS.out k wr hk hI.out
    generalize hTk : T0 + k = tk at *
    have e1 : IntKind.i64.wrap ((tk : Int) + 1) = ((tk + 1 : Nat) : Int) := by rw [IntKind.wrap_i64]; omega
    have q3 : ∀ wr, I (k + 1) wr → Calls Tryd.prog 19 #[.pointer (some ⟨M, 0, none⟩)] wr fun e w' => e = .returned (.int .i64 ((tk + 1 : Nat) : Int)) ∧ wr = w' := fun wr x => by have h := HT.out (k + 1) wr x; rw [show T0 + (k + 1) = tk + 1 by omega] at h; exact h
    have Q3 := hide q3
    clear q3
    have e2 : decide (((tk + 1 : Nat) : Int) < ((tk + 1 : Nat) : Int)) = false := by simp
    have e3 : IntKind.i64.wrap ((k : Int) + 1) = ((k + 1 : Nat) : Int) := by rw [IntKind.wrap_i64]; omega
    generalize ht1 : tk + 1 = tl at *
    generalize hk2 : k + 1 = k1 at *
    by_cases hl : k1 = n
    · rw [decide_eq_true hl] at q2
      go_wp2_with (first
        | (go_at_call 19; with_reducible refine q1.mono ?_; rintro e w1 ⟨rfl, rfl⟩)
        | (go_at_call 25; with_reducible refine q2.mono ?_; rintro e w1 ⟨rfl, i2⟩; have I2 := hide i2; clear i2)
        | (go_at_call 19; with_reducible refine (Q3.out _ I2.out).mono ?_; rintro e w1 ⟨rfl, rfl⟩))
      go_ret
      subst hl
      exact ⟨rfl, I2.out⟩
    · rw [decide_eq_false hl] at q2
      go_wp2_with (first
        | (go_at_call 19; with_reducible refine q1.mono ?_; rintro e w1 ⟨rfl, rfl⟩)
        | (go_at_call 25; with_reducible refine q2.mono ?_; rintro e w1 ⟨rfl, i2⟩; have I2 := hide i2; clear i2)
        | (go_at_call 19; with_reducible refine (Q3.out _ I2.out).mono ?_; rintro e w1 ⟨rfl, rfl⟩))
      go_roundw
      case rel => exact ⟨k1, by omega, rfl, I2⟩
      case measure => simp [intOf]; omega

end Go.Proofs.YteechgmjaagbmabDoor
