/- The law of tops that were moved, walked. -/
import Derived.Test.YtcpbfbdmfkhaeaaTWalks
namespace Go.Proofs.Ytcpbfbdmfkhaeaa
open Go.RowKit

theorem movedW_lt (W : Nat) (s : Int) : movedW W s < 18446744073709551616 := by have := sl_le s; unfold movedW; omega
theorem movedW_tag (W : Nat) (s : Int) : movedW W s / 65536 = (W / 65536 + 1) % 281474976710656 := by have := sl_le s; unfold movedW; omega

theorem no_handle (w : World) : Calls Try.prog 19 #[.int .u64 0] w fun e w' => e = .returned (.tuple #[.int .i64 0, .int .i64 0, .int .u64 0, .bool false]) ∧ Below w.heap.size w w' := by
  have h := parts_any 0 (by omega) w
  rw [show pOk 0 = false by decide, show pC 0 = 0 by decide, show pE 0 = 0 by decide, show pT 0 = 0 by decide] at h
  exact h

theorem apart_end (W X k : Nat) (hX : X / 65536 = (W / 65536 + k) % 281474976710656) (hk : k ≤ 200) :
    (((X / 65536 : Nat) : Int) + 281474976710656 - ((W / 65536 : Nat) : Int)) % 281474976710656 = (k : Int) := by omega

theorem apart_diff (W X k : Nat) (s : Int) (hX : X / 65536 = (W / 65536 + k) % 281474976710656) (hk : k < 200) : ¬ ((movedW X s : Nat) : Int) = (W : Int) := by
  have h1 := movedW_tag X s
  generalize movedW X s = Y at *
  omega

set_option maxHeartbeats 2000000 in
theorem apart_law (S : Nat → Int) (W b off len cap : Nat) (hW : W < 18446744073709551616) (w : World) (hS : ∀ i, i < len → w.cell? ⟨b, off + i, none⟩ = some (.int .i64 (S i))) (hb : b < w.heap.size) (hl : len ≤ 200) :
    Calls Try.prog 8 #[.int .u64 W, .slice (some ⟨b, off, none⟩) len cap] w fun e w' => e = .returned (.bool true) ∧ Below w.heap.size w w' := by
  have c1 := topParts_any W hW
  have c3 := no_handle
  have c4 := awake_any
  have hwb : 0 ≤ ((W / 65536 : Nat) : Int) ∧ ((W / 65536 : Nat) : Int) < 281474976710656 := by omega
  have HW : Hid (W < 18446744073709551616) := hW
  clear hW
  go_enter Try.func8, Try.ntmps8
  go_wp2
  go_loopw [5, 6] (fun x i wr => ∃ k : Nat, k ≤ len ∧ i = .int .i64 k ∧ ∃ X : Nat, x = .int .u64 X ∧ Hid (X < 18446744073709551616) ∧ Hid (X / 65536 = (W / 65536 + k) % 281474976710656) ∧ Below w.heap.size w wr) (fun _ i _ => len - (intOf i).toNat)
  case atStart => exact ⟨0, Nat.zero_le _, rfl, W, rfl, HW, (by have := HW.out; show W / 65536 = _; omega), Below.refl _ _⟩
  case round =>
    obtain ⟨k, hk, rfl, X, rfl, hX, hT, bel⟩ := hrel
    by_cases hkl : k < len
    · have hc : wr.cell? ⟨b, off + k, none⟩ = some (.int .i64 (S k)) := (bel.cell hb).trans (hS k hkl)
      have c2 := moved_any X (S k) hX.out
      have hne := apart_diff W X k (S k) hT.out (by omega)
      have hm1 : Hid (movedW X (S k) < 18446744073709551616) := movedW_lt X (S k)
      have hm2 : Hid (movedW X (S k) / 65536 = (W / 65536 + (k + 1)) % 281474976710656) := by
        show movedW X (S k) / 65536 = _
        have h1 := movedW_tag X (S k)
        have h2 := hT.out
        have h3 := hX.out
        have h4 := HW.out
        omega
      generalize movedW X (S k) = Y at *
      generalize S k = s at *
      clear hS c1 c3 c4 hT hX
      go_wp2_with (first
        | (go_at_call 16; refine (c2 _).mono ?_; rintro e w1 ⟨rfl, b1⟩))
      go_roundw
      case rel => exact ⟨k + 1, by omega, by go_num, Y, rfl, hm1, hm2, bel.trans (b1.mono bel.size)⟩
      case measure => simp [intOf]; omega
    · have hkn : k = len := by omega
      subst hkn
      clear hS
      have he := apart_end W X k hT.out hl
      have hxb : 0 ≤ ((X / 65536 : Nat) : Int) ∧ ((X / 65536 : Nat) : Int) < 281474976710656 := by have := hX.out; omega
      have c2 := topParts_any X hX.out
      clear hX hT HW
      by_cases hxw : X = W
      · subst hxw
        clear c2
        generalize ((X / 65536 : Nat) : Int) = A at *
        generalize ((X % 65536 : Nat) : Int) - 1 = A2 at *
        generalize (X : Int) = X at *
        go_wp2_with (first
          | (go_at_call 11; refine (c1 _).mono ?_; rintro e w1 ⟨rfl, b1⟩; replace bel := bel.trans (b1.mono bel.size))
          | (go_at_call 19; refine (c3 _).mono ?_; rintro e w3 ⟨rfl, b3⟩; replace bel := bel.trans (b3.mono bel.size))
          | (go_at_call 12; refine (c4 _).mono ?_; rintro e w4 ⟨rfl, b4⟩; replace bel := bel.trans (b4.mono bel.size)))
        go_ret
        exact ⟨rfl, bel⟩
      · have hxw2 : ¬ (X : Int) = (W : Int) := by omega
        clear hxw
        generalize ((X / 65536 : Nat) : Int) = A at *
        generalize ((W / 65536 : Nat) : Int) = B at *
        generalize ((X % 65536 : Nat) : Int) - 1 = A2 at *
        generalize ((W % 65536 : Nat) : Int) - 1 = B2 at *
        generalize (X : Int) = X at *
        generalize (W : Int) = W at *
        go_wp2_with (first
          | (go_at_call 11; first | (with_reducible refine (c1 _).mono ?_; rintro e w1 ⟨rfl, b1⟩; replace bel := bel.trans (b1.mono bel.size)) | (with_reducible refine (c2 _).mono ?_; rintro e w2 ⟨rfl, b2⟩; replace bel := bel.trans (b2.mono bel.size)))
          | (go_at_call 19; refine (c3 _).mono ?_; rintro e w3 ⟨rfl, b3⟩; replace bel := bel.trans (b3.mono bel.size))
          | (go_at_call 12; refine (c4 _).mono ?_; rintro e w4 ⟨rfl, b4⟩; replace bel := bel.trans (b4.mono bel.size)))
        go_ret
        exact ⟨rfl, bel⟩

set_option maxHeartbeats 400000 in
theorem apart_long (W : Int) (ad : Option Addr) (len cap : Nat) (w : World) (hl : 200 < len) :
    Calls Try.prog 8 #[.int .u64 W, .slice ad len cap] w fun e w' => e = .returned (.bool true) ∧ Below w.heap.size w w' := by
  have c4 := awake_any
  go_enter Try.func8, Try.ntmps8
  go_wp2_with (first
    | (go_at_call 12; refine (c4 _).mono ?_; rintro e w4 ⟨rfl, b4⟩))
  go_ret
  exact ⟨rfl, b4⟩

set_option maxHeartbeats 1000000 in
theorem apart_empty (W : Nat) (ad : Option Addr) (cap : Nat) (hW : W < 18446744073709551616) (w : World) :
    Calls Try.prog 8 #[.int .u64 W, .slice ad 0 cap] w fun e w' => e = .returned (.bool true) ∧ Below w.heap.size w w' := by
  have c1 := topParts_any W hW
  have c3 := no_handle
  have c4 := awake_any
  have hwb : 0 ≤ ((W / 65536 : Nat) : Int) ∧ ((W / 65536 : Nat) : Int) < 281474976710656 := by omega
  have he : (((W / 65536 : Nat) : Int) + 281474976710656 - ((W / 65536 : Nat) : Int)) % 281474976710656 = 0 := by omega
  clear hW
  generalize ((W / 65536 : Nat) : Int) = A at *
  generalize ((W % 65536 : Nat) : Int) - 1 = A2 at *
  generalize (W : Int) = X at *
  have bel : Below w.heap.size w w := Below.refl _ _
  go_enter Try.func8, Try.ntmps8
  go_wp2
  refine wp_loop_rounds 1 ?_
  rw [rounds_succ]
  go_wp2_with (first
    | (go_at_call 11; refine (c1 _).mono ?_; rintro e w1 ⟨rfl, b1⟩; replace bel := bel.trans (b1.mono bel.size))
    | (go_at_call 19; refine (c3 _).mono ?_; rintro e w3 ⟨rfl, b3⟩; replace bel := bel.trans (b3.mono bel.size))
    | (go_at_call 12; refine (c4 _).mono ?_; rintro e w4 ⟨rfl, b4⟩; replace bel := bel.trans (b4.mono bel.size)))
  go_ret
  exact ⟨rfl, bel⟩
end Go.Proofs.Ytcpbfbdmfkhaeaa
