/- The ways through HeadPacks and HeadMade. -/
import Derived.Test.YtjbjijkkmlehgaaDoorHhHMore
namespace Go.Proofs.YtjbjijkkmlehgaaDoor.Hh
open Go.RowKit

theorem right_word {K M : Nat} {A N S : Nat} (h : Hr K M A N S) : rightH K M A N S = true := by
  have := h.k
  have := h.m
  have := h.a
  have := h.n
  have := h.s
  exact decide_eq_true (by omega)

theorem right_parts {k m a n s : Int} (h : rightH k m a n s = true) : ∃ K M A N S : Nat, Hr K M A N S ∧ k = (K : Int) ∧ m = (M : Int) ∧ a = (A : Int) ∧ n = (N : Int) ∧ s = (S : Int) := by
  have h' := of_decide_eq_true h
  exact ⟨k.toNat, m.toNat, a.toNat, n.toNat, s.toNat, ⟨by omega, by omega, by omega, by omega, by omega⟩, by omega, by omega, by omega, by omega, by omega⟩

set_option maxHeartbeats 1000000 in
theorem made_not (k a n : Int) (e : Nat) (h : usedK k = false) (w : World) :
    Calls Tryd.prog 70 #[.int .i64 k, .int .i64 a, .int .i64 n, .int .u64 (e : Nat)] w fun r w' => r = .returned (.tuple #[.int .u64 0, .bool false]) ∧ Below w.heap.size w w' := by
  have c := used_any k
  rw [h] at c
  go_enter Tryd.func70, Tryd.ntmps70
  go_wp2_with (first | (go_at_call 85; refine (c _).mono ?_; rintro r w1 ⟨rfl, rfl⟩))
  go_ret2
  exact ⟨rfl, Below.refl _ _⟩

set_option maxHeartbeats 1000000 in
theorem made_as (k a n : Int) (e : Nat) (he : e < 18446744073709551616) (h : usedK k = true) (V : Int) (z : Bool)
    (c3 : ∀ w, WT w → Calls Tryd.prog 86 #[.agg #[.int .i64 k, .int .i64 ((bornN e : Nat) : Int), .bool false, .int .i64 a, .int .i64 n, .int .i64 0]] w fun r w' => r = .returned (.tuple #[.int .u64 V, .bool z]) ∧ Below w.heap.size w w') (w : World) (hw : WT w) :
    Calls Tryd.prog 70 #[.int .i64 k, .int .i64 a, .int .i64 n, .int .u64 (e : Nat)] w fun r w' => r = .returned (.tuple #[.int .u64 V, .bool z]) ∧ Below w.heap.size w w' := by
  have c := used_any k
  rw [h] at c
  have c2 := tborn_nat e he
  have bel := Below.refl w.heap.size w
  go_enter Tryd.func70, Tryd.ntmps70
  go_wp2_with (first
    | (go_at_call 85; refine (c _).mono ?_; rintro r w1 ⟨rfl, rfl⟩)
    | (go_at_call 87; refine (c2 _).mono ?_; rintro r w1 ⟨rfl, b⟩; replace hw := hw.below b; replace bel := seq_below bel b; clear b)
    | (go_at_call 86; refine (c3 _ hw).mono ?_; rintro r w2 ⟨rfl, b⟩; replace bel := seq_below bel b; clear b))
  go_ret2
  exact ⟨rfl, bel⟩

end Go.Proofs.YtjbjijkkmlehgaaDoor.Hh
