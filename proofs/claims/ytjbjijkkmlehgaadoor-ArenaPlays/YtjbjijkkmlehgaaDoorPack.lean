/- Contract of word.Pack over a slice of pairs. -/
import Derived.Test.YtjbjijkkmlehgaaDoorWords
namespace Go.Proofs.YtjbjijkkmlehgaaDoor.Tg
open Go.RowKit

/-- What k values come to: the word and how many bits of it are taken; or nothing. -/
def packSt (N : Nat → Int) (V : Nat → Nat) : Nat → Option (Nat × Nat)
  | 0 => some (0, 0)
  | k + 1 => match packSt N V k with
    | none => none
    | some (W, a) => if isSome a (N k) = true ∧ V k < 2 ^ (N k).toNat then some (setN W a (N k).toNat (V k), a + (N k).toNat) else none

theorem packSt_none {N : Nat → Int} {V : Nat → Nat} {k : Nat} (h : packSt N V k = none) (m : Nat) (hm : k ≤ m) : packSt N V m = none := by
  induction m with
  | zero => have : k = 0 := by omega
            subst this; exact h
  | succ m ih =>
    by_cases hk : k = m + 1
    · subst hk; exact h
    · rw [packSt, ih (by omega)]

theorem packSt_bounds {N : Nat → Int} {V : Nat → Nat} {k W a : Nat} (h : packSt N V k = some (W, a)) : W < 18446744073709551616 ∧ a ≤ 64 := by
  cases k with
  | zero => simp [packSt] at h; omega
  | succ k =>
    rw [packSt] at h
    split at h
    · cases h
    · rename_i W' a' h'
      split at h
      · rename_i hc
        simp only [Option.some.injEq, Prod.mk.injEq] at h
        have := (isSome_iff _ _).1 hc.1
        have := setN_lt W' a' (N k).toNat (V k)
        omega
      · cases h

theorem packSt_step {N : Nat → Int} {V : Nat → Nat} {k W a : Nat} (h : packSt N V k = some (W, a)) (hs : isSome a (N k) = true) :
    packSt N V (k + 1) = if V k < 2 ^ (N k).toNat then some (setN W a (N k).toNat (V k), a + (N k).toNat) else none := by
  rw [packSt, h]
  simp [hs]

set_option maxHeartbeats 1000000 in
theorem pack_some (N : Nat → Int) (V : Nat → Nat) (b off len cap : Nat) (w : World)
   (hN : ∀ i, i < len → w.cell? ⟨b, off + i * 2, none⟩ = some (.int .i64 (N i))) (hV : ∀ i, i < len → w.cell? ⟨b, off + i * 2 + 1, none⟩ = some (.int .u64 (V i)))
   (bN : ∀ i, i < len → -9223372036854775808 ≤ N i ∧ N i ≤ 9223372036854775807) (bV : ∀ i, i < len → V i < 18446744073709551616)
   (hl : len ≤ 9223372036854775807) (hb : b < w.heap.size) :
    Calls Tryd.prog 77 #[.slice (some ⟨b, off, none⟩) len cap] w fun e w' =>
      e = .returned (.tuple #[.int .u64 ((((packSt N V len).getD (0, 0)).1 : Nat) : Int), .bool (packSt N V len).isSome]) ∧ Below w.heap.size w w' := by
  go_enter Tryd.func77, Tryd.ntmps77
  go_wp2
  go_loopw [4, 5, 10] (fun u v i wr => ∃ k : Nat, k ≤ len ∧ i = .int .i64 k ∧ ∃ W a : Nat, u = .int .u64 W ∧ v = .int .i64 a ∧ Hid (packSt N V k = some (W, a)) ∧ Below w.heap.size w wr) (fun _ _ i _ => len - (intOf i).toNat)
  case atStart => exact ⟨0, Nat.zero_le _, rfl, 0, 0, rfl, rfl, rfl, Below.refl _ _⟩
  case round =>
    obtain ⟨k, hk, rfl, W, a, rfl, rfl, hS, hbel⟩ := hrel
    have hbd := packSt_bounds hS.out
    by_cases hkl : k < len
    · have hc0 : wr.cell? ⟨b, off + k * 2, none⟩ = some (.int .i64 (N k)) := (hbel.cell hb).trans (hN k hkl)
      have hc1 : wr.cell? ⟨b, off + k * 2 + 1, none⟩ = some (.int .u64 (V k)) := (hbel.cell hb).trans (hV k hkl)
      have hbN := bN k hkl
      have hbV := bV k hkl
      clear hN hV bN bV
      by_cases hs : isSome a (N k) = true
      · have hs' := (isSome_iff _ _).1 hs
        obtain ⟨n, hn⟩ : ∃ n : Nat, N k = (n : Int) := ⟨(N k).toNat, by omega⟩
        have hn' : (N k).toNat = n := by omega
        have hst := packSt_step hS.out hs
        rw [hn'] at hst
        rw [hn] at hc0 hs hs' hbN
        have hn64 : 1 ≤ n ∧ n ≤ 64 ∧ a + n ≤ 64 := by omega
        clear hS hn hn' hs' hbN
        have HS : Hid (packSt N V (k + 1) = if V k < 2 ^ n then some (setN W a n (V k), a + n) else none) := hst
        clear hst
        generalize hvk : V k = v at *
        clear hvk
        by_cases hf : v < 2 ^ n
        · have hfd : decide (v < 2 ^ n) = true := decide_eq_true hf
          have HF : Hid (v < 2 ^ n) := hf
          clear hf
          go_wp2_with (first
            | (go_at_call 83; refine (some_any a n (by omega) (by omega) _).mono ?_; rintro e w' ⟨rfl, rfl⟩)
            | (go_at_call 91; refine (fits_yes v n (by omega) (by omega) _).mono ?_; rintro e w' ⟨rfl, rfl⟩)
            | (go_at_call 92; refine (set_yes W a n v (by omega) (by omega) (by omega) (by omega) _).mono ?_; rintro e w' ⟨rfl, rfl⟩))
          go_roundw
          case rel =>
            refine ⟨k + 1, by omega, by go_num, setN W a n v, a + n, rfl, by go_num, ?_, hbel.alloc hbel.size _⟩
            show packSt N V (k + 1) = _
            rw [HS.out, if_pos HF.out]
          case measure => simp [intOf]; omega
        · have hfd : decide (v < 2 ^ n) = false := decide_eq_false hf
          have HF : Hid (¬ v < 2 ^ n) := hf
          clear hf
          go_wp2_with (first
            | (go_at_call 83; refine (some_any a n (by omega) (by omega) _).mono ?_; rintro e w' ⟨rfl, rfl⟩)
            | (go_at_call 91; refine (fits_yes v n (by omega) (by omega) _).mono ?_; rintro e w' ⟨rfl, rfl⟩))
          go_ret2
          rw [packSt_none (k := k + 1) (by rw [HS.out, if_neg HF.out]) len (by omega)]
          exact ⟨rfl, hbel.alloc hbel.size _⟩
      · have hs0 : isSome a (N k) = false := by simpa using hs
        have hst : Hid (packSt N V (k + 1) = none) := by
          show packSt N V (k + 1) = none
          rw [packSt, hS.out]
          simp [hs0]
        clear hS hs
        generalize N k = n at *
        go_wp2_with (go_at_call 83; refine (some_any a n (by omega) (by omega) _).mono ?_; rintro e w' ⟨rfl, rfl⟩)
        go_ret2
        rw [packSt_none (k := k + 1) hst.out len (by omega)]
        exact ⟨rfl, hbel.alloc hbel.size _⟩
    · have hkn : k = len := by omega
      subst hkn
      clear hN hV bN bV
      go_wp2
      go_ret2
      rw [hS.out]
      exact ⟨rfl, hbel⟩

set_option maxHeartbeats 400000 in
theorem pack_empty (N : Nat → Int) (V : Nat → Nat) (ad : Option Addr) (cap : Nat) (w : World) :
    Calls Tryd.prog 77 #[.slice ad 0 cap] w fun e w' =>
      e = .returned (.tuple #[.int .u64 ((((packSt N V 0).getD (0, 0)).1 : Nat) : Int), .bool (packSt N V 0).isSome]) ∧ Below w.heap.size w w' := by
  go_enter Tryd.func77, Tryd.ntmps77
  go_wp2
  refine wp_loop_rounds 1 ?_
  rw [rounds_succ]
  go_wp2
  go_ret2
  exact ⟨rfl, Below.refl _ _⟩
end Go.Proofs.YtjbjijkkmlehgaaDoor.Tg
