/- The ways through the law MemNone. -/
import Derived.Test.YteeocnknocoefabDoes
namespace Go.Proofs.Yteeocnknocoefab
open Go.RowKit

/-- Acts that came in: a row of cells, four an act. -/
structure Acts (w : World) (b off len : Nat) (K A : Nat → Int) (P Q : Nat → Nat) : Prop where
  lt : b < w.heap.size
  k : ∀ i, i < len → w.cell? ⟨b, off + i * 4, none⟩ = some (.int .i64 (K i))
  a : ∀ i, i < len → w.cell? ⟨b, off + i * 4 + 1, none⟩ = some (.int .i64 (A i))
  p : ∀ i, i < len → w.cell? ⟨b, off + i * 4 + 2, none⟩ = some (.int .u64 (P i))
  q : ∀ i, i < len → w.cell? ⟨b, off + i * 4 + 3, none⟩ = some (.int .u64 (Q i))
  bp : ∀ i, i < len → P i < 18446744073709551616
  bq : ∀ i, i < len → Q i < 18446744073709551616

theorem Acts.below {w w' : World} {b off len : Nat} {K A : Nat → Int} {P Q : Nat → Nat} (h : Acts w b off len K A P Q) (hb : Below w.heap.size w w') : Acts w' b off len K A P Q :=
  ⟨Nat.lt_of_lt_of_le h.lt hb.size, fun i hi => (hb.cell h.lt).trans (h.k i hi), fun i hi => (hb.cell h.lt).trans (h.a i hi), fun i hi => (hb.cell h.lt).trans (h.p i hi), fun i hi => (hb.cell h.lt).trans (h.q i hi), h.bp, h.bq⟩

set_option maxHeartbeats 1000000 in
theorem none_long (ad : Option Addr) (len cap : Nat) (h : 300 < len) (w : World) :
    Calls Try.prog 5 #[.slice ad len cap] w fun e w' => e = .returned (.bool true) ∧ Below w.heap.size w w' := by
  go_enter Try.func5, Try.ntmps5
  go_wp2_with (go_at_call 8; refine (awake_any _).mono ?_; rintro e w' ⟨rfl, hb⟩)
  go_ret
  exact ⟨rfl, hb⟩

set_option maxHeartbeats 1000000 in
theorem none_short {w : World} {b off len : Nat} {K A : Nat → Int} {P Q : Nat → Nat} (h : Acts w b off len K A P Q) (cap : Nat) (hl : len ≤ 300) :
    Calls Try.prog 5 #[.slice (some ⟨b, off, none⟩) len cap] w fun e w' => e = .returned (.bool true) ∧ Below w.heap.size w w' := by
  go_enter Try.func5, Try.ntmps5
  go_wp2
  go_loopw [4] (fun i wr => ∃ k : Nat, k ≤ len ∧ i = .int .i64 k ∧ Below w.heap.size w wr) (fun i _ => len - (intOf i).toNat)
  case atStart => exact ⟨0, Nat.zero_le _, rfl, Below.refl _ _⟩
  case round =>
    obtain ⟨k, hk, rfl, hbel⟩ := hrel
    by_cases hkl : k < len
    · have H := h.below hbel
      have g0 := H.k k hkl
      have g1 := H.a k hkl
      have g2 := H.p k hkl
      have g3 := H.q k hkl
      generalize K k = kd at *
      generalize A k = a at *
      generalize P k = p at *
      generalize Q k = q at *
      have c := fun w => does_nil kd a p q w
      unfold actV at c
      clear h H
      go_wp2_with (go_at_call 10; refine (c _).mono ?_; rintro e w1 ⟨rfl, hb1⟩)
      go_roundw
      case rel => exact ⟨k + 1, by omega, by go_num, hbel.trans (hb1.mono hbel.size)⟩
      case measure => simp [intOf]; omega
    · have hkn : k = len := by omega
      subst hkn
      clear h
      go_wp2_with (first
        | (go_at_call 15; refine (size_nil _).mono ?_; rintro e w1 ⟨rfl, rfl⟩)
        | (go_at_call 11; refine (touches_nil _).mono ?_; rintro e w2 ⟨rfl, rfl⟩)
        | (go_at_call 12; refine (last_nil _).mono ?_; rintro e w3 ⟨rfl, b3⟩)
        | (go_at_call 14; refine (words_nil _).mono ?_; rintro e w4 ⟨R, rfl, b4⟩)
        | (go_at_call 16; refine (copy_nil _).mono ?_; rintro e w5 ⟨rfl, rfl⟩)
        | (go_at_call 8; refine (awake_any _).mono ?_; rintro e w6 ⟨rfl, b6⟩))
      go_ret
      have d3 := hbel.trans (b3.mono hbel.size)
      have d4 := d3.trans (b4.mono d3.size)
      exact ⟨rfl, d4.trans (b6.mono d4.size)⟩

set_option maxHeartbeats 1000000 in
theorem none_empty (ad : Option Addr) (cap : Nat) (w : World) :
    Calls Try.prog 5 #[.slice ad 0 cap] w fun e w' => e = .returned (.bool true) ∧ Below w.heap.size w w' := by
  have hbel := Below.refl w.heap.size w
  go_enter Try.func5, Try.ntmps5
  go_wp2
  refine wp_loop_rounds 1 ?_
  rw [rounds_succ]
  go_wp2_with (first
    | (go_at_call 15; refine (size_nil _).mono ?_; rintro e w1 ⟨rfl, rfl⟩)
    | (go_at_call 11; refine (touches_nil _).mono ?_; rintro e w2 ⟨rfl, rfl⟩)
    | (go_at_call 12; refine (last_nil _).mono ?_; rintro e w3 ⟨rfl, b3⟩)
    | (go_at_call 14; refine (words_nil _).mono ?_; rintro e w4 ⟨R, rfl, b4⟩)
    | (go_at_call 16; refine (copy_nil _).mono ?_; rintro e w5 ⟨rfl, rfl⟩)
    | (go_at_call 8; refine (awake_any _).mono ?_; rintro e w6 ⟨rfl, b6⟩))
  go_ret
  have d3 := hbel.trans (b3.mono hbel.size)
  have d4 := d3.trans (b4.mono d3.size)
  exact ⟨rfl, d4.trans (b6.mono d4.size)⟩
end Go.Proofs.Yteeocnknocoefab
