/- The ways through the law WordUnpacks. -/
import Derived.Test.YteeocnknocoefaaUnpack
import Derived.BigQuiet
namespace Go.Proofs.Yteeocnknocoefaa
open Go.RowKit

theorem rget_same (W a n : Nat) (hW : W < 18446744073709551616) (h1 : 1 ≤ n) (h2 : a + n ≤ 64) (w : World) :
    Calls Try.prog 10 #[.int .u64 W, .int .i64 a, .int .i64 n] w fun e w' => e = .returned (.int .u64 ((getN W a n : Nat) : Int)) ∧ w' = w :=
  (rget_yes W a n hW h1 h2 w).mono fun _ _ ⟨he, hw⟩ => ⟨he, hw.symm⟩

theorem unpL_at (S : Nat → Int) (W len k a n : Nat) (hk : k < len) (h : unpSt S k = some a) (hn : (S k).toNat = n) : (unpL S W len)[k]? = some (Value.int .u64 ((getN W a n : Nat) : Int)) := by
  simp [unpL, hk, h, hn]

theorem drew_on {w1 wr : World} (h : Hid (∃ m, wr = w1.drewN m)) (n : Nat) : Hid (∃ m, wr.drewN n = w1.drewN m) := by
  obtain ⟨m, rfl⟩ := h.out
  exact ⟨m + n, by rw [World.drewN_drewN]⟩

theorem below_on {w w1 wr w2 : World} (hb1 : Below w.heap.size w w1) (h : Hid (∃ m, wr = w1.drewN m)) (hb2 : Below wr.heap.size wr w2) : Below w.heap.size w w2 := by
  obtain ⟨m, rfl⟩ := h.out
  exact hb1.trans ((below_drewN (Below.refl _ _) _).trans (hb2.mono hb1.size))

set_option maxHeartbeats 1000000 in
/-- Behind Unpack, all sizes being right: the loop of the law. -/
theorem unpacks_yes (S : Nat → Int) (W b off len cap : Nat) (hW : W < 18446744073709551616) (w : World) (hlen : 0 < len)
   (hS : ∀ i, i < len → w.cell? ⟨b, off + i, none⟩ = some (.int .i64 (S i)))
   (bS : ∀ i, i < len → -9223372036854775808 ≤ S i ∧ S i ≤ 9223372036854775807)
   (hl : len ≤ 9223372036854775807) (hb : b < w.heap.size) (hall : unpSt S len ≠ none) :
    Calls Try.prog 7 #[.int .u64 W, .slice (some ⟨b, off, none⟩) len cap] w fun e w' => e = .returned (.bool true) ∧ Below w.heap.size w w' := by
  have hU : Calls Try.prog 18 #[.int .u64 W, .slice (some ⟨b, off, none⟩) len cap] w fun e w' => Below w.heap.size w w' ∧ ∃ g c, e = .returned (.tuple #[.slice (some ⟨g, 0, none⟩) len c, .bool true]) ∧ ∀ j, j < len → w'.cell? ⟨g, j, none⟩ = (unpL S W len)[j]? := by
    refine (unpack_some S W b off len cap hW w hS bS hl hb).mono fun e w' ⟨h1, h2⟩ => ⟨h1, ?_⟩
    rcases h2 with ⟨h3, _⟩ | ⟨v, _, rfl, hown⟩
    · exact absurd h3 hall
    · have hown' := hown
      obtain ⟨_, ⟨_, h0⟩ | ⟨g, c, cur, rfl, _⟩⟩ := hown
      · omega
      · exact ⟨g, c, rfl, fun j hj => hown'.cellAt j (by omega)⟩
  go_enter Try.func7, Try.ntmps7
  go_wp2_with (go_at_call 18; refine hU.mono ?_; rintro e w1 ⟨hb1, g, c, rfl, hcell⟩)
  have hS1 : ∀ i, i < len → w1.cell? ⟨b, off + i, none⟩ = some (.int .i64 (S i)) := fun i hi => (hb1.cell hb).trans (hS i hi)
  clear hU hS
  go_loopw [7, 8, 9] (fun u v i wr => ∃ k : Nat, k ≤ len ∧ i = .int .i64 k ∧ v = .bool true ∧ ∃ a : Nat, u = .int .i64 a ∧ Hid (unpSt S k = some a) ∧ Hid (∃ m, wr = w1.drewN m)) (fun _ _ i _ => len - (intOf i).toNat)
  case atStart => exact ⟨0, Nat.zero_le _, rfl, rfl, 0, rfl, rfl, ⟨0, rfl⟩⟩
  case round =>
    obtain ⟨k, hk, rfl, rfl, a, rfl, hST, hW1⟩ := hrel
    have hbd := unpSt_bounds hST.out
    by_cases hkl : k < len
    · have hs : isSome a (S k) = true := by
        cases e : isSome a (S k)
        · exact absurd (unpSt_none (S := S) (k := k + 1) (by rw [unpSt, hST.out]; simp [e]) len (by omega)) hall
        · rfl
      have hc0 : wr.cell? ⟨b, off + k, none⟩ = some (.int .i64 (S k)) := by obtain ⟨m, rfl⟩ := hW1.out; exact hS1 k hkl
      have hs' := (isSome_iff _ _).1 hs
      obtain ⟨n, hn⟩ : ∃ n : Nat, S k = (n : Int) := ⟨(S k).toNat, by omega⟩
      have hn' : (S k).toNat = n := by omega
      have hst : Hid (unpSt S (k + 1) = some (a + n)) := by
        show unpSt S (k + 1) = some (a + n)
        rw [unpSt, hST.out]
        simp [hs, hn']
      have hc1 : wr.cell? ⟨g, k, none⟩ = some (Value.int .u64 ((getN W a n : Nat) : Int)) := by obtain ⟨m, rfl⟩ := hW1.out; exact (hcell k hkl).trans (unpL_at S W len k a n hkl hST.out hn')
      rw [hn] at hc0 hs hs'
      have hn64 : 1 ≤ n ∧ n ≤ 64 ∧ a + n ≤ 64 := by omega
      clear hST hn hn' hs' hS1 bS hcell hall
      go_wp2_with (first
        | (go_at_call 19; refine (Some_any a n (by omega) (by omega) _).mono ?_; rintro e w' ⟨rfl, rfl⟩))
      go_quiet (exact Calls.quiet_of_same (rget_same W a n hW hn64.1 hn64.2.2 _))
      go_wp2
      go_roundw
      case rel => exact ⟨k + 1, by omega, by go_num, rfl, a + n, by go_num, hst, drew_on hW1 _⟩
      case measure => simp [intOf]; omega
    · have hkn : k = len := by omega
      subst hkn
      clear hS1 bS hcell
      go_wp2_with (first
        | (go_at_call 11; refine (awake_any _).mono ?_; rintro e w' ⟨rfl, hb2⟩))
      go_ret
      have hb2 := ‹Below wr.heap.size wr _›
      exact ⟨rfl, below_on hb1 hW1 hb2⟩

set_option maxHeartbeats 1000000 in
/-- Behind Unpack, some size being wrong: the loop of the law comes to that size. -/
theorem unpacks_no (S : Nat → Int) (W b off len cap : Nat) (hW : W < 18446744073709551616) (w : World)
   (hS : ∀ i, i < len → w.cell? ⟨b, off + i, none⟩ = some (.int .i64 (S i)))
   (bS : ∀ i, i < len → -9223372036854775808 ≤ S i ∧ S i ≤ 9223372036854775807)
   (hl : len ≤ 9223372036854775807) (hb : b < w.heap.size) (hall : unpSt S len = none) :
    Calls Try.prog 7 #[.int .u64 W, .slice (some ⟨b, off, none⟩) len cap] w fun e w' => e = .returned (.bool true) ∧ Below w.heap.size w w' := by
  have hU : Calls Try.prog 18 #[.int .u64 W, .slice (some ⟨b, off, none⟩) len cap] w fun e w' => Below w.heap.size w w' ∧ e = .returned (.tuple #[.slice none 0 0, .bool false]) := by
    refine (unpack_some S W b off len cap hW w hS bS hl hb).mono fun e w' ⟨h1, h2⟩ => ⟨h1, ?_⟩
    rcases h2 with ⟨_, h3⟩ | ⟨v, h4, _, _⟩
    · exact h3
    · exact absurd hall h4
  go_enter Try.func7, Try.ntmps7
  go_wp2_with (go_at_call 18; refine hU.mono ?_; rintro e w1 ⟨hb1, rfl⟩)
  have hS1 : ∀ i, i < len → w1.cell? ⟨b, off + i, none⟩ = some (.int .i64 (S i)) := fun i hi => (hb1.cell hb).trans (hS i hi)
  clear hU hS
  have HALL : Hid (unpSt S len = none) := hall
  clear hall
  go_loopw [7, 8, 9] (fun u v i wr => ∃ k : Nat, k ≤ len ∧ i = .int .i64 k ∧ ∃ g : Bool, v = .bool g ∧ ∃ a : Nat, u = .int .i64 a ∧ Hid (unpSt S k = some a) ∧ Hid (∃ m, wr = w1.drewN m)) (fun _ _ i _ => len - (intOf i).toNat)
  case atStart => exact ⟨0, Nat.zero_le _, rfl, true, rfl, 0, rfl, rfl, ⟨0, rfl⟩⟩
  case round =>
    obtain ⟨k, hk, rfl, g, rfl, a, rfl, hST, hW1⟩ := hrel
    have hbd := unpSt_bounds hST.out
    by_cases hkl : k < len
    · have hc0 : wr.cell? ⟨b, off + k, none⟩ = some (.int .i64 (S k)) := by obtain ⟨m, rfl⟩ := hW1.out; exact hS1 k hkl
      have hbS := bS k hkl
      by_cases hs : isSome a (S k) = true
      · have hs' := (isSome_iff _ _).1 hs
        obtain ⟨n, hn⟩ : ∃ n : Nat, S k = (n : Int) := ⟨(S k).toNat, by omega⟩
        have hn' : (S k).toNat = n := by omega
        have hst : Hid (unpSt S (k + 1) = some (a + n)) := by
          show unpSt S (k + 1) = some (a + n)
          rw [unpSt, hST.out]
          simp [hs, hn']
        rw [hn] at hc0 hs hs'
        have hn64 : 1 ≤ n ∧ n ≤ 64 ∧ a + n ≤ 64 := by omega
        have hk0 : decide ((k : Int) < 0) = false := decide_eq_false (by omega)
        clear hST hn hn' hs' hS1 bS hbS HALL
        cases g
        · go_wp2_with (first
            | (go_at_call 19; refine (Some_any a n (by omega) (by omega) _).mono ?_; rintro e w' ⟨rfl, rfl⟩))
          go_quiet (fail)
          go_wp2
          go_roundw
          case rel => exact ⟨k + 1, by omega, by go_num, _, rfl, a + n, by go_num, hst, drew_on hW1 _⟩
          case measure => simp [intOf]; omega
        · go_wp2_with (first
            | (go_at_call 19; refine (Some_any a n (by omega) (by omega) _).mono ?_; rintro e w' ⟨rfl, rfl⟩))
          go_quiet (fail)
          go_wp2
          go_roundw
          case rel => exact ⟨k + 1, by omega, by go_num, _, rfl, a + n, by go_num, hst, drew_on hW1 _⟩
          case measure => simp [intOf]; omega
      · have hs0 : isSome a (S k) = false := by simpa using hs
        clear hST hs hS1 bS HALL
        generalize S k = n at *
        go_wp2_with (first
          | (go_at_call 19; refine (Some_any a n (by omega) (by omega) _).mono ?_; rintro e w' ⟨rfl, rfl⟩)
          | (go_at_call 11; refine (awake_any _).mono ?_; rintro e w' ⟨rfl, hb2⟩))
        go_ret
        have hb2 := ‹Below wr.heap.size wr _›
        exact ⟨rfl, below_on hb1 hW1 hb2⟩
    · have hkn : k = len := by omega
      subst hkn
      have := HALL.out.symm.trans hST.out
      cases this

set_option maxHeartbeats 400000 in
/-- Without any size. -/
theorem unpacks_empty (W : Nat) (ad : Option Addr) (cap : Nat) (w : World) :
    Calls Try.prog 7 #[.int .u64 W, .slice ad 0 cap] w fun e w' => e = .returned (.bool true) ∧ Below w.heap.size w w' := by
  have hU : Calls Try.prog 18 #[.int .u64 W, .slice ad 0 cap] w fun e w' => Below w.heap.size w w' ∧ ∃ a2 c, e = .returned (.tuple #[.slice a2 0 c, .bool true]) := by
    refine (unpack_empty (fun _ => 0) W ad cap w).mono fun e w' ⟨h1, h2⟩ => ⟨h1, ?_⟩
    rcases h2 with ⟨h3, _⟩ | ⟨v, _, rfl, hown⟩
    · simp [unpSt] at h3
    · obtain ⟨_, ⟨rfl, _⟩ | ⟨g, c, cur, rfl, _⟩⟩ := hown
      · exact ⟨_, _, rfl⟩
      · exact ⟨_, _, rfl⟩
  go_enter Try.func7, Try.ntmps7
  go_wp2_with (go_at_call 18; refine hU.mono ?_; rintro e w1 ⟨hb1, a2, c, rfl⟩)
  clear hU
  refine wp_loop_rounds 1 ?_
  rw [rounds_succ]
  go_wp2_with (first
    | (go_at_call 11; refine (awake_any _).mono ?_; rintro e w' ⟨rfl, hb2⟩))
  go_ret
  have hb2 := ‹Below w1.heap.size w1 _›
  exact ⟨rfl, hb1.trans (hb2.mono hb1.size)⟩
end Go.Proofs.Yteeocnknocoefaa
