/- Contract of word.Unpack over a slice of sizes. -/
import Derived.Test.YteeocnknocoefaaAwake
namespace Go.Proofs.Yteeocnknocoefaa
open Go.RowKit

/-- How many bits k sizes take; or nothing, where they aren't some bits. -/
def unpSt (S : Nat → Int) : Nat → Option Nat
  | 0 => some 0
  | k + 1 => match unpSt S k with
    | none => none
    | some a => if isSome a (S k) = true then some (a + (S k).toNat) else none

theorem unpSt_none {S : Nat → Int} {k : Nat} (h : unpSt S k = none) (m : Nat) (hm : k ≤ m) : unpSt S m = none := by
  induction m with
  | zero => have : k = 0 := by omega
            subst this; exact h
  | succ m ih =>
    by_cases hk : k = m + 1
    · subst hk; exact h
    · rw [unpSt, ih (by omega)]

theorem unpSt_bounds {S : Nat → Int} {k a : Nat} (h : unpSt S k = some a) : k ≤ a ∧ a ≤ 64 := by
  induction k generalizing a with
  | zero => simp [unpSt] at h; omega
  | succ k ih =>
    rw [unpSt] at h
    split at h
    · cases h
    · rename_i a' h'
      split at h
      · rename_i hc
        have h1 := (isSome_iff _ _).1 hc
        have h2 := ih h'
        simp only [Option.some.injEq] at h
        omega
      · cases h

/-- The numbers of the first k sizes. -/
def unpL (S : Nat → Int) (W k : Nat) : List Value := (List.range k).map fun i => Value.int .u64 ((getN W ((unpSt S i).getD 0) (S i).toNat : Nat) : Int)

theorem unpL_step (S : Nat → Int) (W k a : Nat) (h : unpSt S k = some a) : unpL S W (k + 1) = unpL S W k ++ [Value.int .u64 ((getN W a (S k).toNat : Nat) : Int)] := by
  simp [unpL, List.range_succ, h]

theorem Try.info22 : (Try.prog.info? 22).map (fun i => (i.zero, i.size, i.bytes)) = some (some (.int .u64 0), 1, 8) := by kernel_rfl

theorem unp_rel {w wr w1 : World} {m k e : Nat} {o : Obj} {v : Value} {xs : List Value} (hbel : Below w.heap.size w wr) (hown : wr.ownsRow w.heap.size e 1 v k xs)
    (hg : ((wr.drewN m).alloc o).grownBy w1 v.ownBlock) : Below w.heap.size w w1 := by
  have hs := hbel.size
  refine ((below_drewN hbel m).alloc hs o).grown hg ?_ fun g hg => (hown.lt g hg).1
  simp
  omega

set_option maxHeartbeats 1000000 in
theorem unpack_some (S : Nat → Int) (W b off len cap : Nat) (hW : W < 18446744073709551616) (w : World)
   (hS : ∀ i, i < len → w.cell? ⟨b, off + i, none⟩ = some (.int .i64 (S i)))
   (bS : ∀ i, i < len → -9223372036854775808 ≤ S i ∧ S i ≤ 9223372036854775807)
   (hl : len ≤ 9223372036854775807) (hb : b < w.heap.size) :
    Calls Try.prog 18 #[.int .u64 W, .slice (some ⟨b, off, none⟩) len cap] w fun e w' => Below w.heap.size w w' ∧
      ((unpSt S len = none ∧ e = .returned (.tuple #[.slice none 0 0, .bool false])) ∨
       (∃ v, unpSt S len ≠ none ∧ e = .returned (.tuple #[v, .bool true]) ∧ w'.ownsRow w.heap.size 22 1 v len (unpL S W len))) := by
  obtain ⟨i0, hi, hz0, hz1, hz2⟩ := info_parts Try.info22
  go_enter Try.func18, Try.ntmps18
  go_wp2
  go_loopw [6, 7, 12] (fun u v i wr => ∃ k : Nat, k ≤ len ∧ i = .int .i64 k ∧ ∃ a : Nat, v = .int .i64 a ∧ Hid (unpSt S k = some a) ∧ wr.ownsRow w.heap.size 22 1 u k (unpL S W k) ∧ Below w.heap.size w wr) (fun _ _ i _ => len - (intOf i).toNat)
  case atStart => exact ⟨0, Nat.zero_le _, rfl, 0, rfl, rfl, World.ownsRow_nil _ _ _ _, Below.refl _ _⟩
  case round =>
    obtain ⟨k, hk, rfl, a, rfl, hST, hown, hbel⟩ := hrel
    have hbd := unpSt_bounds hST.out
    by_cases hkl : k < len
    · have hc0 : wr.cell? ⟨b, off + k, none⟩ = some (.int .i64 (S k)) := (hbel.cell hb).trans (hS k hkl)
      have hbS := bS k hkl
      clear hS bS
      by_cases hs : isSome a (S k) = true
      · have hs' := (isSome_iff _ _).1 hs
        obtain ⟨n, hn⟩ : ∃ n : Nat, S k = (n : Int) := ⟨(S k).toNat, by omega⟩
        have hn' : (S k).toNat = n := by omega
        have hst : Hid (unpSt S (k + 1) = some (a + n)) := by
          show unpSt S (k + 1) = some (a + n)
          rw [unpSt, hST.out]
          simp [hs, hn']
        have hLs : Hid (unpL S W (k + 1) = unpL S W k ++ [Value.int .u64 ((getN W a n : Nat) : Int)]) := by
          rw [← hn']; exact unpL_step S W k a hST.out
        rw [hn] at hc0 hs hs' hbS
        have hn64 : 1 ≤ n ∧ n ≤ 64 ∧ a + n ≤ 64 := by omega
        clear hST hn hn' hs' hbS
        go_wp2_with (first
          | (go_at_call 20; refine (some_any a n (by omega) (by omega) _).mono ?_; rintro e w' ⟨rfl, rfl⟩)
          | (go_at_call 9; refine (get_yes W a n (by omega) (by omega) (by omega) _).mono ?_; rintro e w' ⟨rfl, m, rfl⟩)
          | (at_builtin; refine wpList_append_own _ rfl _ _ 35 rfl w.heap.size 22 i0 (.int .u64 0) 1 8 Try.underlying35 hi hz0 hz1 hz2 rfl (by decide) _ k (unpL S W k) rfl ?c0 ⟨wr.heap.size, 0, none⟩ 1 1 [.int .u64 ((getN W a n : Nat) : Int)] rfl rfl ?c1 ?c2 ?c3 ?c4 ?c5 ?_))
        case c0 => exact hown.alloc _
        case c1 => exact cell_one_new (wr.drewN m) _ _
        case c2 => intro u hu; simp at hu; subst hu; rfl
        case c3 => unfold maxLen; omega
        case c4 => omega
        case c5 => have := hbel.size; simp; omega
        · intro v' w1 hown' hgrow _
          have R := unp_rel hbel hown hgrow
          rw [← hLs.out] at hown'
          clear hgrow hown hbel
          go_wp2
          go_roundw
          case rel => exact ⟨k + 1, by omega, by go_num, a + n, by go_num, hst, hown', R⟩
          case measure => simp [intOf]; omega
      · have hs0 : isSome a (S k) = false := by simpa using hs
        have hst : Hid (unpSt S (k + 1) = none) := by
          show unpSt S (k + 1) = none
          rw [unpSt, hST.out]
          simp [hs0]
        clear hST hs
        generalize S k = n at *
        go_wp2_with (go_at_call 20; refine (some_any a n (by omega) (by omega) _).mono ?_; rintro e w' ⟨rfl, rfl⟩)
        go_ret2
        exact ⟨hbel, .inl ⟨unpSt_none hst.out len (by omega), rfl⟩⟩
    · have hkn : k = len := by omega
      subst hkn
      clear hS bS
      go_wp2
      go_ret2
      exact ⟨hbel, .inr ⟨_, by rw [hST.out]; simp, rfl, hown⟩⟩

set_option maxHeartbeats 400000 in
theorem unpack_empty (S : Nat → Int) (W : Nat) (ad : Option Addr) (cap : Nat) (w : World) :
    Calls Try.prog 18 #[.int .u64 W, .slice ad 0 cap] w fun e w' => Below w.heap.size w w' ∧
      ((unpSt S 0 = none ∧ e = .returned (.tuple #[.slice none 0 0, .bool false])) ∨
       (∃ v, unpSt S 0 ≠ none ∧ e = .returned (.tuple #[v, .bool true]) ∧ w'.ownsRow w.heap.size 22 1 v 0 (unpL S W 0))) := by
  go_enter Try.func18, Try.ntmps18
  go_wp2
  refine wp_loop_rounds 1 ?_
  rw [rounds_succ]
  go_wp2
  go_ret2
  exact ⟨Below.refl _ _, .inr ⟨_, by simp [unpSt], rfl, World.ownsRow_nil _ _ _ _⟩⟩
end Go.Proofs.Yteeocnknocoefaa
