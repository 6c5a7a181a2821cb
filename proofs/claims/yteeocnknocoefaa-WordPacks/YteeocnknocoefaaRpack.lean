/- Contract of the reference's Pack over a slice of pairs. -/
import Derived.Test.YteeocnknocoefaaUnpacksWalk
namespace Go.Proofs.Yteeocnknocoefaa
open Go.RowKit

theorem Some_same (a n : Int) (ha : -9223372036854775808 ≤ a ∧ a ≤ 9223372036854775807) (hn : -9223372036854775808 ≤ n ∧ n ≤ 9223372036854775807) (g : Bool) (hg : isSome a n = g) (w : World) :
    Calls Try.prog 19 #[.int .i64 a, .int .i64 n] w fun e w' => e = .returned (.bool g) ∧ w' = w :=
  (Some_any a n ha hn w).mono fun _ _ ⟨he, hw⟩ => ⟨by rw [he, hg], hw.symm⟩

theorem rfits_same (V n : Nat) (hV : V < 18446744073709551616) (hn : n ≤ 9223372036854775807) (g : Bool) (hg : decide (V < 2 ^ n) = g) (w : World) :
    Calls Try.prog 15 #[.int .u64 V, .int .i64 n] w fun e w' => e = .returned (.bool g) ∧ w' = w :=
  (rfits_yes V n hV hn w).mono fun _ _ ⟨he, hw⟩ => ⟨by rw [he, hg], hw.symm⟩

theorem rset_same (W a n V : Nat) (hW : W < 18446744073709551616) (hV : V < 18446744073709551616) (h1 : 1 ≤ n) (h2 : a + n ≤ 64) (w : World) :
    Calls Try.prog 13 #[.int .u64 W, .int .i64 a, .int .i64 n, .int .u64 V] w fun e w' => e = .returned (.int .u64 ((setN W a n V : Nat) : Int)) ∧ w' = w :=
  (rset_yes W a n V hW hV h1 h2 w).mono fun _ _ ⟨he, hw⟩ => ⟨he, hw.symm⟩

set_option maxHeartbeats 1000000 in
theorem rpack_some (N : Nat → Int) (V : Nat → Nat) (b off len cap : Nat) (w : World)
   (hN : ∀ i, i < len → w.cell? ⟨b, off + i * 2, none⟩ = some (.int .i64 (N i))) (hV : ∀ i, i < len → w.cell? ⟨b, off + i * 2 + 1, none⟩ = some (.int .u64 (V i)))
   (bN : ∀ i, i < len → -9223372036854775808 ≤ N i ∧ N i ≤ 9223372036854775807) (bV : ∀ i, i < len → V i < 18446744073709551616)
   (hl : len ≤ 9223372036854775807) :
    Calls Try.prog 17 #[.slice (some ⟨b, off, none⟩) len cap] w fun e w' =>
      e = .returned (.tuple #[.int .u64 ((((packSt N V len).getD (0, 0)).1 : Nat) : Int), .bool (packSt N V len).isSome]) ∧ Hid (∃ m, w' = w.drewN m) := by
  go_enter Try.func17, Try.ntmps17
  go_wp2
  go_loopw [4, 5, 6] (fun u v i wr => ∃ k : Nat, k ≤ len ∧ i = .int .i64 k ∧ ∃ W a : Nat, u = .int .u64 W ∧ v = .int .i64 a ∧ Hid (packSt N V k = some (W, a)) ∧ Hid (∃ m, wr = w.drewN m)) (fun _ _ i _ => len - (intOf i).toNat)
  case atStart => exact ⟨0, Nat.zero_le _, rfl, 0, 0, rfl, rfl, rfl, ⟨0, rfl⟩⟩
  case round =>
    obtain ⟨k, hk, rfl, W, a, rfl, rfl, hS, hW1⟩ := hrel
    have hbd := packSt_bounds hS.out
    by_cases hkl : k < len
    · have hc0 : wr.cell? ⟨b, off + k * 2, none⟩ = some (.int .i64 (N k)) := by obtain ⟨m, rfl⟩ := hW1.out; exact hN k hkl
      have hc1 : wr.cell? ⟨b, off + k * 2 + 1, none⟩ = some (.int .u64 (V k)) := by obtain ⟨m, rfl⟩ := hW1.out; exact hV k hkl
      have hbN := bN k hkl
      have hbV := bV k hkl
      clear hN hV bN bV
      by_cases hs : isSome a (N k) = true
      · have hs' := (isSome_iff _ _).1 hs
        obtain ⟨n, hn⟩ : ∃ n : Nat, N k = (n : Int) := ⟨(N k).toNat, by omega⟩
        have hn' : (N k).toNat = n := by omega
        have hst := packSt_step hS.out hs
        rw [hn'] at hst
        rw [hn] at hc0 hs hs' hbN
        have hn64 : 1 ≤ n ∧ n ≤ 64 ∧ a + n ≤ 64 := by omega
        have HI : Hid (isSome (a : Int) (n : Int) = true) := hs
        clear hS hn hn' hs' hbN hs
        have HS : Hid (packSt N V (k + 1) = if V k < 2 ^ n then some (setN W a n (V k), a + n) else none) := hst
        clear hst
        generalize hvk : V k = v at *
        clear hvk
        have c1 := Some_same a n (by omega) (by omega) true HI.out
        have c3 := rset_same W a n v (by omega) hbV hn64.1 hn64.2.2
        by_cases hf : v < 2 ^ n
        · have c2 := rfits_same v n hbV (by omega) true (decide_eq_true hf)
          have HF : Hid (v < 2 ^ n) := hf
          clear hf
          go_wp2_with fail
          go_quiet (first | exact Calls.quiet_of_same (c1 _) | exact Calls.quiet_of_same (c2 _))
          go_wp2
          have hd0 : (wr.drewN nq).cell? ⟨b, off + k * 2, none⟩ = some (.int .i64 n) := hc0
          have hd1 : (wr.drewN nq).cell? ⟨b, off + k * 2 + 1, none⟩ = some (.int .u64 v) := hc1
          have hW2 := drew_on hW1 nq
          clear hc0 hc1 c1 c2 HI hW1
          generalize wr.drewN nq = wq at *
          go_quiet (exact Calls.quiet_of_same (c3 _))
          go_wp2
          go_roundw
          case rel =>
            refine ⟨k + 1, by omega, by go_num, setN W a n v, a + n, rfl, by go_num, ?_, drew_on hW2 _⟩
            show packSt N V (k + 1) = _
            rw [HS.out, if_pos HF.out]
          case measure => simp [intOf]; omega
        · have c2 := rfits_same v n hbV (by omega) false (decide_eq_false hf)
          have HF : Hid (¬ v < 2 ^ n) := hf
          clear hf
          go_wp2_with fail
          go_quiet (first | exact Calls.quiet_of_same (c1 _) | exact Calls.quiet_of_same (c2 _))
          go_wp2
          go_ret2
          rw [packSt_none (k := k + 1) (by rw [HS.out, if_neg HF.out]) len (by omega)]
          exact ⟨rfl, drew_on hW1 _⟩
      · have hs0 : isSome a (N k) = false := by simpa using hs
        have hst : Hid (packSt N V (k + 1) = none) := by
          show packSt N V (k + 1) = none
          rw [packSt, hS.out]
          simp [hs0]
        clear hS hs
        generalize N k = n at *
        have c1 := Some_same a n (by omega) (by omega) false hs0
        clear hs0
        go_wp2_with fail
        go_quiet (exact Calls.quiet_of_same (c1 _))
        go_wp2
        go_ret2
        rw [packSt_none (k := k + 1) hst.out len (by omega)]
        exact ⟨rfl, drew_on hW1 _⟩
    · have hkn : k = len := by omega
      subst hkn
      clear hN hV bN bV
      go_wp2
      go_ret2
      rw [hS.out]
      exact ⟨rfl, hW1⟩

set_option maxHeartbeats 400000 in
theorem rpack_empty (N : Nat → Int) (V : Nat → Nat) (ad : Option Addr) (cap : Nat) (w : World) :
    Calls Try.prog 17 #[.slice ad 0 cap] w fun e w' =>
      e = .returned (.tuple #[.int .u64 ((((packSt N V 0).getD (0, 0)).1 : Nat) : Int), .bool (packSt N V 0).isSome]) ∧ Hid (∃ m, w' = w.drewN m) := by
  go_enter Try.func17, Try.ntmps17
  go_wp2
  refine wp_loop_rounds 1 ?_
  rw [rounds_succ]
  go_wp2
  go_ret2
  exact ⟨rfl, 0, rfl⟩
end Go.Proofs.Yteeocnknocoefaa
