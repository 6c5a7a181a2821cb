/- The laws of tops, entries, moves and handles, walked. -/
import Derived.Test.YtcpbfbdmfkhaeaaTRef
namespace Go.Proofs.Ytcpbfbdmfkhaeaa
open Go.RowKit

set_option maxHeartbeats 2000000 in
theorem tops_law (t : Nat) (s : Int) (W : Nat) (ht : t < 18446744073709551616) (hW : W < 18446744073709551616) (w : World) :
    Calls Try.prog 3 #[.int .u64 t, .int .i64 s, .int .u64 W] w fun e w' => e = .returned (.bool true) ∧ Below w.heap.size w w' := by
  have c1 := top_any t s ht
  have c2 := rtop_any t s ht
  have c3 := topParts_any W hW
  have c4 := awake_any
  rw [show ((W / 65536 : Nat) : Int) = (W : Int) / 65536 by omega, show ((W % 65536 : Nat) : Int) = (W : Int) % 65536 by omega] at c3
  have hb : 0 ≤ (W : Int) ∧ (W : Int) < 18446744073709551616 := by omega
  have hb2 : 0 ≤ (W : Int) % 65536 ∧ (W : Int) % 65536 < 65536 := by omega
  generalize topW 16 t s = X at *
  generalize topOk 16 t s = Y at *
  clear ht hW
  generalize (W : Int) = W at *
  generalize (t : Int) = t at *
  generalize (X : Int) = X at *
  go_enter Try.func3, Try.ntmps3
  go_wp2_with (first
    | (go_at_call 9; refine (c1 _).mono ?_; rintro e w1 ⟨rfl, b1⟩)
    | (go_at_call 10; refine (c2 _).mono ?_; rintro e w2 ⟨rfl, rfl⟩)
    | (go_at_call 11; refine (c3 _).mono ?_; rintro e w3 ⟨rfl, b3⟩)
    | (go_at_call 12; refine (c4 _).mono ?_; rintro e w4 ⟨rfl, b4⟩))
  go_ret
  exact ⟨rfl, seq_below (seq_below b1 b3) b4⟩

set_option maxHeartbeats 2000000 in
theorem entries_law (t : Nat) (s : Int) (W : Nat) (ht : t < 18446744073709551616) (hW : W < 18446744073709551616) (w : World) :
    Calls Try.prog 4 #[.int .u64 t, .int .i64 s, .int .u64 W] w fun e w' => e = .returned (.bool true) ∧ Below w.heap.size w w' := by
  have c1 := entry_any t s ht
  have c2 := rentry_any t s ht
  have c3 := entryParts_any W hW
  have c4 := awake_any
  rw [show ((W / 4294967296 : Nat) : Int) = (W : Int) / 4294967296 by omega, show ((W % 4294967296 : Nat) : Int) = (W : Int) % 4294967296 by omega] at c3
  have hb : 0 ≤ (W : Int) ∧ (W : Int) < 18446744073709551616 := by omega
  have hb2 : 0 ≤ (W : Int) % 4294967296 ∧ (W : Int) % 4294967296 < 4294967296 := by omega
  generalize topW 32 t s = X at *
  generalize topOk 32 t s = Y at *
  clear ht hW
  generalize (W : Int) = W at *
  generalize (t : Int) = t at *
  generalize (X : Int) = X at *
  go_enter Try.func4, Try.ntmps4
  go_wp2_with (first
    | (go_at_call 13; refine (c1 _).mono ?_; rintro e w1 ⟨rfl, b1⟩)
    | (go_at_call 14; refine (c2 _).mono ?_; rintro e w2 ⟨rfl, rfl⟩)
    | (go_at_call 15; refine (c3 _).mono ?_; rintro e w3 ⟨rfl, b3⟩)
    | (go_at_call 12; refine (c4 _).mono ?_; rintro e w4 ⟨rfl, b4⟩))
  go_ret
  exact ⟨rfl, seq_below (seq_below b1 b3) b4⟩

theorem moved_top (W : Nat) (s : Int) (k : Int) (hk : isS1 k = true) (hs : ((sl s : Nat) : Int) = k + 1) : topW 16 ((W / 65536 + 1) % 281474976710656) k = movedW W s := by
  have h := isS1_iff.1 hk
  rw [(topW_yes (k := 16) (s := k) hk (by omega)).1]
  unfold movedW
  omega

set_option maxHeartbeats 2000000 in
theorem moves_law (W : Nat) (s : Int) (hW : W < 18446744073709551616) (w : World) :
    Calls Try.prog 5 #[.int .u64 W, .int .i64 s] w fun e w' => e = .returned (.bool true) ∧ Below w.heap.size w w' := by
  have c1 := moved_any W s hW
  have c4 := awake_any
  have hb : 0 ≤ (W : Int) ∧ (W : Int) < 18446744073709551616 := by omega
  by_cases hs : 0 ≤ s ∧ s ≤ 63
  · have c2 := rtop_any ((W / 65536 + 1) % 281474976710656) s (by omega)
    rw [moved_top W s s (isS1_iff.2 (by omega)) (by unfold sl; rw [if_pos hs]; omega), show (((W / 65536 + 1) % 281474976710656 : Nat) : Int) = ((W : Int) / 65536 + 1) % 281474976710656 by omega] at c2
    generalize movedW W s = X at *
    generalize topOk 16 ((W / 65536 + 1) % 281474976710656) s = Y at *
    clear hW
    have hd1 : decide (s < 0) = false := decide_eq_false (by omega)
    have hd2 : decide (63 < s) = false := decide_eq_false (by omega)
    generalize (W : Int) = W at *
    generalize (X : Int) = X at *
    go_enter Try.func5, Try.ntmps5
    go_wp2_with (first
      | (go_at_call 16; refine (c1 _).mono ?_; rintro e w1 ⟨rfl, b1⟩)
      | (go_at_call 10; refine (c2 _).mono ?_; rintro e w2 ⟨rfl, rfl⟩)
      | (go_at_call 12; refine (c4 _).mono ?_; rintro e w4 ⟨rfl, b4⟩))
    go_ret
    exact ⟨rfl, seq_below b1 b4⟩
  · have c2 := rtop_any ((W / 65536 + 1) % 281474976710656) (-1) (by omega)
    rw [moved_top W s (-1) (by decide) (by unfold sl; rw [if_neg hs]; rfl), show (((W / 65536 + 1) % 281474976710656 : Nat) : Int) = ((W : Int) / 65536 + 1) % 281474976710656 by omega] at c2
    generalize movedW W s = X at *
    generalize topOk 16 ((W / 65536 + 1) % 281474976710656) (-1) = Y at *
    clear hW
    generalize (W : Int) = W at *
    generalize (X : Int) = X at *
    have HS : Hid (¬ (0 ≤ s ∧ s ≤ 63)) := hs
    clear hs
    go_enter Try.func5, Try.ntmps5
    go_wp2_with (first
      | (go_at_call 16; refine (c1 _).mono ?_; rintro e w1 ⟨rfl, b1⟩)
      | (go_at_call 10; with_reducible refine (c2 _).mono ?_; rintro e w2 ⟨rfl, rfl⟩)
      | (go_at_call 12; refine (c4 _).mono ?_; rintro e w4 ⟨rfl, b4⟩))
    all_goals first
      | (go_ret; exact ⟨rfl, seq_below b1 b4⟩)
      | (exfalso; have := HS.out; omega)

theorem hw_lt (c e : Int) (t : Nat) : hW c e t < 18446744073709551616 := by
  cases h : hOk c e t
  · rw [hW_no h]; omega
  · rw [hW_yes h]; have := hOk_iff.1 h; omega

theorem back_ok {c e : Int} {t : Nat} (h : hOk c e t = true) : pOk (hW c e t) = true ∧ pC (hW c e t) = c ∧ pE (hW c e t) = e ∧ pT (hW c e t) = t := by
  have h1 := hOk_iff.1 h
  have h2 := hW_yes h
  have h3 : pOk (hW c e t) = true := pOk_iff.2 (by omega)
  refine ⟨h3, ?_, ?_, ?_⟩
  · unfold pC; rw [if_pos h3]; omega
  · unfold pE; rw [if_pos h3]; omega
  · unfold pT; rw [if_pos h3]; omega

set_option maxHeartbeats 2000000 in
theorem handles_law (c e : Int) (t : Nat) (ht : t < 18446744073709551616) (w : World) :
    Calls Try.prog 6 #[.int .i64 c, .int .i64 e, .int .u64 t] w fun en w' => en = .returned (.bool true) ∧ Below w.heap.size w w' := by
  have c1 := handle_any c e t ht
  have c2 := rhandle_any c e t ht
  have c3 := parts_any (hW c e t) (hw_lt c e t)
  have c4 := awake_any
  cases hb : hOk c e t
  · rw [hb] at c1 c2
    generalize pOk (hW c e t) = Y at *
    generalize pC (hW c e t) = C at *
    generalize pE (hW c e t) = E at *
    generalize pT (hW c e t) = T at *
    generalize hW c e t = X at *
    clear hb ht
    generalize (X : Int) = X at *
    generalize (T : Int) = T at *
    generalize (t : Int) = t at *
    go_enter Try.func6, Try.ntmps6
    go_wp2_with (first
      | (go_at_call 17; refine (c1 _).mono ?_; rintro e w1 ⟨rfl, b1⟩)
      | (go_at_call 18; refine (c2 _).mono ?_; rintro e w2 ⟨rfl, rfl⟩)
      | (go_at_call 19; refine (c3 _).mono ?_; rintro e w3 ⟨rfl, b3⟩)
      | (go_at_call 12; refine (c4 _).mono ?_; rintro e w4 ⟨rfl, b4⟩))
    go_ret
    exact ⟨rfl, seq_below (seq_below b1 b3) b4⟩
  · obtain ⟨k1, k2, k3, k4⟩ := back_ok hb
    rw [k1, k2, k3, k4] at c3
    rw [hb] at c1 c2
    clear k1 k2 k3 k4 hb ht
    generalize hW c e t = X at *
    generalize (X : Int) = X at *
    generalize (t : Int) = t at *
    go_enter Try.func6, Try.ntmps6
    go_wp2_with (first
      | (go_at_call 17; refine (c1 _).mono ?_; rintro e w1 ⟨rfl, b1⟩)
      | (go_at_call 18; refine (c2 _).mono ?_; rintro e w2 ⟨rfl, rfl⟩)
      | (go_at_call 19; refine (c3 _).mono ?_; rintro e w3 ⟨rfl, b3⟩)
      | (go_at_call 12; refine (c4 _).mono ?_; rintro e w4 ⟨rfl, b4⟩))
    go_ret
    exact ⟨rfl, seq_below (seq_below b1 b3) b4⟩

theorem pT_lt (h : Nat) : pT h < 18446744073709551616 := by unfold pT; split <;> omega
theorem read_ok {h : Nat} (hb : pOk h = true) : hOk (pC h) (pE h) (pT h) = true ∧ hW (pC h) (pE h) (pT h) = h := by
  unfold pC pE pT
  rw [if_pos hb, if_pos hb, if_pos hb]
  exact (pOk_back h).1 hb

set_option maxHeartbeats 2000000 in
theorem reads_law (h : Nat) (hh : h < 18446744073709551616) (w : World) :
    Calls Try.prog 7 #[.int .u64 h] w fun en w' => en = .returned (.bool true) ∧ Below w.heap.size w w' := by
  have c1 := parts_any h hh
  have c2 := rparts_any h hh
  have c3 := handle_any (pC h) (pE h) (pT h) (pT_lt h)
  have c4 := awake_any
  cases hb : pOk h
  · rw [hb] at c1 c2
    generalize hOk (pC h) (pE h) (pT h) = Y at *
    generalize hW (pC h) (pE h) (pT h) = X at *
    clear hh
    generalize pC h = C at *
    generalize pE h = E at *
    generalize pT h = T at *
    generalize (X : Int) = X at *
    generalize (T : Int) = T at *
    clear hb
    generalize (h : Int) = h at *
    go_enter Try.func7, Try.ntmps7
    go_wp2_with (first
      | (go_at_call 19; refine (c1 _).mono ?_; rintro e w1 ⟨rfl, b1⟩)
      | (go_at_call 20; refine (c2 _).mono ?_; rintro e w2 ⟨rfl, rfl⟩)
      | (go_at_call 17; refine (c3 _).mono ?_; rintro e w3 ⟨rfl, b3⟩)
      | (go_at_call 12; refine (c4 _).mono ?_; rintro e w4 ⟨rfl, b4⟩))
    go_ret
    exact ⟨rfl, seq_below (seq_below b1 b3) b4⟩
  · obtain ⟨k1, k2⟩ := read_ok hb
    rw [k1, k2] at c3
    rw [hb] at c1 c2
    clear k1 k2 hb hh
    generalize pC h = C at *
    generalize pE h = E at *
    generalize pT h = T at *
    generalize (T : Int) = T at *
    generalize (h : Int) = h at *
    go_enter Try.func7, Try.ntmps7
    go_wp2_with (first
      | (go_at_call 19; refine (c1 _).mono ?_; rintro e w1 ⟨rfl, b1⟩)
      | (go_at_call 20; refine (c2 _).mono ?_; rintro e w2 ⟨rfl, rfl⟩)
      | (go_at_call 17; refine (c3 _).mono ?_; rintro e w3 ⟨rfl, b3⟩)
      | (go_at_call 12; refine (c4 _).mono ?_; rintro e w4 ⟨rfl, b4⟩))
    go_ret
    exact ⟨rfl, seq_below (seq_below b1 b3) b4⟩
end Go.Proofs.Ytcpbfbdmfkhaeaa
