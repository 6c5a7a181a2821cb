/- The way through HeadFollows. -/
import Derived.Test.YtjoehcdkiooimacDoorHRet
namespace Go.Proofs.YtjoehcdkiooimacDoor
open Go.RowKit

set_option maxRecDepth 100000 in
set_option maxHeartbeats 4000000 in
theorem follows_white (W V B R e : Nat)
    (c12W : ∀ w, WT w → Calls Tryd.prog 12 #[.int .u64 (W : Nat), .int .u64 (e : Nat)] w fun r w' => r = .returned (.tuple #[.int .u64 (V : Nat), .bool true]) ∧ Below w.heap.size w w')
    (c12V : ∀ w, WT w → Calls Tryd.prog 12 #[.int .u64 (V : Nat), .int .u64 (e : Nat)] w fun r w' => r = .returned (.tuple #[.int .u64 (V : Nat), .bool false]) ∧ Below w.heap.size w w')
    (c12R : ∀ w, WT w → Calls Tryd.prog 12 #[.int .u64 (R : Nat), .int .u64 (e : Nat)] w fun r w' => r = .returned (.tuple #[.int .u64 (R : Nat), .bool false]) ∧ Below w.heap.size w w')
    (c6V : ∀ w, WT w → Calls Tryd.prog 6 #[.int .u64 (V : Nat), .int .u64 (e : Nat)] w fun r w' => r = .returned (.tuple #[.int .u64 (V : Nat), .bool false]) ∧ Below w.heap.size w w')
    (c6W : ∀ w, WT w → Calls Tryd.prog 6 #[.int .u64 (W : Nat), .int .u64 (e : Nat)] w fun r w' => r = .returned (.tuple #[.int .u64 (R : Nat), .bool true]) ∧ Below w.heap.size w w')
    (c13V : ∀ w, WT w → Calls Tryd.prog 13 #[.int .u64 (V : Nat)] w fun r w' => r = .returned (.tuple #[.int .u64 (B : Nat), .bool true]) ∧ Below w.heap.size w w')
    (c13B : ∀ w, WT w → Calls Tryd.prog 13 #[.int .u64 (B : Nat)] w fun r w' => r = .returned (.tuple #[.int .u64 (B : Nat), .bool false]) ∧ Below w.heap.size w w')
    (c14V : ∀ w, WT w → Calls Tryd.prog 14 #[.int .u64 (V : Nat), .int .u64 (e : Nat)] w fun r w' => r = .returned (.bool true) ∧ Below w.heap.size w w')
    (c14B : ∀ w, WT w → Calls Tryd.prog 14 #[.int .u64 (B : Nat), .int .u64 (e : Nat)] w fun r w' => r = .returned (.bool true) ∧ Below w.heap.size w w')
    (c14R : ∀ w, WT w → Calls Tryd.prog 14 #[.int .u64 (R : Nat), .int .u64 (e : Nat)] w fun r w' => r = .returned (.bool false) ∧ Below w.heap.size w w')
    (w : World) (hw : WT w) :
    Calls Tryd.prog 4 #[.int .u64 (W : Nat), .int .u64 (e : Nat)] w fun r w' => r = .returned (.bool true) ∧ Below w.heap.size w w' := by
  have bel := Below.refl w.heap.size w
  go_enter Tryd.func4, Tryd.ntmps4
  go_wp2_with (first
    | (go_at_call 12; with_reducible refine (c12W _ hw).mono ?_; rintro r wA ⟨rfl, b⟩; replace hw := hw.below b; replace bel := seq_below bel b; clear b)
    | (go_at_call 12; with_reducible refine (c12V _ hw).mono ?_; rintro r wA ⟨rfl, b⟩; replace hw := hw.below b; replace bel := seq_below bel b; clear b)
    | (go_at_call 12; with_reducible refine (c12R _ hw).mono ?_; rintro r wA ⟨rfl, b⟩; replace hw := hw.below b; replace bel := seq_below bel b; clear b)
    | (go_at_call 6; with_reducible refine (c6V _ hw).mono ?_; rintro r wA ⟨rfl, b⟩; replace hw := hw.below b; replace bel := seq_below bel b; clear b)
    | (go_at_call 6; with_reducible refine (c6W _ hw).mono ?_; rintro r wA ⟨rfl, b⟩; replace hw := hw.below b; replace bel := seq_below bel b; clear b)
    | (go_at_call 13; with_reducible refine (c13V _ hw).mono ?_; rintro r wA ⟨rfl, b⟩; replace hw := hw.below b; replace bel := seq_below bel b; clear b)
    | (go_at_call 13; with_reducible refine (c13B _ hw).mono ?_; rintro r wA ⟨rfl, b⟩; replace hw := hw.below b; replace bel := seq_below bel b; clear b)
    | (go_at_call 14; with_reducible refine (c14V _ hw).mono ?_; rintro r wA ⟨rfl, b⟩; replace hw := hw.below b; replace bel := seq_below bel b; clear b)
    | (go_at_call 14; with_reducible refine (c14B _ hw).mono ?_; rintro r wA ⟨rfl, b⟩; replace hw := hw.below b; replace bel := seq_below bel b; clear b)
    | (go_at_call 14; with_reducible refine (c14R _ hw).mono ?_; rintro r wA ⟨rfl, b⟩; replace hw := hw.below b; replace bel := seq_below bel b; clear b)
    | (go_at_call 11; refine (awake_any _ hw).mono ?_; rintro r wI ⟨rfl, b⟩; replace hw := hw.below b; replace bel := seq_below bel b; clear b))
  go_ret
  exact ⟨rfl, bel⟩

set_option maxHeartbeats 2000000 in
theorem follows_not (W e : Nat)
    (c12W : ∀ w, WT w → Calls Tryd.prog 12 #[.int .u64 (W : Nat), .int .u64 (e : Nat)] w fun r w' => r = .returned (.tuple #[.int .u64 (W : Nat), .bool false]) ∧ Below w.heap.size w w')
    (c6W : ∀ w, WT w → Calls Tryd.prog 6 #[.int .u64 (W : Nat), .int .u64 (e : Nat)] w fun r w' => r = .returned (.tuple #[.int .u64 (W : Nat), .bool false]) ∧ Below w.heap.size w w')
    (w : World) (hw : WT w) :
    Calls Tryd.prog 4 #[.int .u64 (W : Nat), .int .u64 (e : Nat)] w fun r w' => r = .returned (.bool true) ∧ Below w.heap.size w w' := by
  have bel := Below.refl w.heap.size w
  go_enter Tryd.func4, Tryd.ntmps4
  go_wp2_with (first
    | (go_at_call 12; with_reducible refine (c12W _ hw).mono ?_; rintro r wA ⟨rfl, b⟩; replace hw := hw.below b; replace bel := seq_below bel b; clear b)
    | (go_at_call 6; with_reducible refine (c6W _ hw).mono ?_; rintro r wA ⟨rfl, b⟩; replace hw := hw.below b; replace bel := seq_below bel b; clear b)
    | (go_at_call 11; refine (awake_any _ hw).mono ?_; rintro r wI ⟨rfl, b⟩; replace hw := hw.below b; replace bel := seq_below bel b; clear b))
  go_ret
  exact ⟨rfl, bel⟩

theorem white_of (K M e : Nat) (h : whiteH K M e = true) : usedK K = true := by
  unfold whiteH at h
  simp only [Bool.and_eq_true] at h
  exact h.1
theorem white_black (K e : Nat) : whiteH K (blackN e) e = false := by
  unfold whiteH
  rw [black_nat]
  simp

theorem follows_walk (W e : Nat) (hW : W < 18446744073709551616) (he : e < 18446744073709551616) (w : World) (hw : WT w) :
    Calls Tryd.prog 4 #[.int .u64 (W : Nat), .int .u64 (e : Nat)] w fun r w' => r = .returned (.bool true) ∧ Below w.heap.size w w' := by
  by_cases h : okW W = true
  · obtain ⟨K, M, g, A, N, S, hr, rfl⟩ := okW_parts hW h
    by_cases hz : whiteH K M e = true
    · have hv : Hr K (blackN e) A N S := ⟨hr.k, blackN_lt e, hr.a, hr.n, hr.s⟩
      have hl : Hr 3 M A N (stampN e) := ⟨by decide, hr.m, hr.a, hr.n, Nat.mod_lt _ (by decide)⟩
      have hu := white_of K M e hz
      have hb := white_black K e
      have h3 : whiteH ((3 : Nat) : Int) M e = false := rfl
      refine follows_white _ (wordOf K (blackN e) (true : Bool).toNat A N S) (wordOf K (blackN e) (false : Bool).toNat A N S) (wordOf 3 M (false : Bool).toNat A N (stampN e)) e
        (fun w hw => shaded_word g hr e he hz w hw) (fun w hw => shaded_not true hv e he hb w hw) (fun w hw => shaded_not false hl e he h3 w hw)
        (fun w hw => retired_not true hv e he hb w hw) (fun w hw => retired_word g hr e he hz w hw)
        (fun w hw => blackened_gray hv w hw) (fun w hw => blackened_not hv w hw) ?_ ?_ ?_ w hw
      · intro w hw
        have c := marked_word true hv e he w hw
        rw [hu, hb] at c
        exact c
      · intro w hw
        have c := marked_word false hv e he w hw
        rw [hu, hb] at c
        exact c
      · intro w hw
        exact marked_word false hl e he w hw
    · have hz' : whiteH K M e = false := by simpa using hz
      exact follows_not _ e (fun w hw => shaded_not g hr e he hz' w hw) (fun w hw => retired_not g hr e he hz' w hw) w hw
  · have hb : okW W = false := by simpa using h
    exact follows_not W e (fun w hw => shaded_bad hW hb e w hw) (fun w hw => retired_bad hW hb e w hw) w hw
end Go.Proofs.YtjoehcdkiooimacDoor
