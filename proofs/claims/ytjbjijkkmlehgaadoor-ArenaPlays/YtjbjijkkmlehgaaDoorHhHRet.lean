/- Contracts of head's Retired and Freed. -/
import Derived.Test.YtjbjijkkmlehgaaDoorHhHShade
namespace Go.Proofs.YtjbjijkkmlehgaaDoor.Hh
open Go.RowKit

theorem WT.drewN {w : World} (h : WT w) (m : Nat) : WT (w.drewN m) := h

def stampN (e : Nat) : Nat := e % 65536
theorem stamp_get (e : Nat) : getN e 0 16 = stampN e := by simp [getN, stampN]

set_option maxHeartbeats 1000000 in
theorem freed_bad {W : Nat} (hW : W < 18446744073709551616) (h : okW W = false) (x : Int) (w : World) (hw : WT w) :
    Calls Tryd.prog 71 #[.int .u64 (W : Nat), .int .i64 x] w fun r w' => r = .returned (.tuple #[.int .u64 (W : Nat), .bool false]) ∧ Below w.heap.size w w' := by
  have c1 := fun w hw => unpack_bad hW h w hw
  clear h
  have bel := Below.refl w.heap.size w
  go_enter Tryd.func71, Tryd.ntmps71
  go_wp2_with (first | (go_at_call 49; refine (c1 _ hw).mono ?_; rintro r wA ⟨rfl, b⟩; replace hw := hw.below b; replace bel := seq_below bel b; have hs := bel.size; have hp := hw.lt; clear b))
  go_ret2
  exact ⟨rfl, bel.alloc bel.size _⟩

set_option maxHeartbeats 2000000 in
theorem freed_not {K M : Nat} (g : Bool) {A N S : Nat} (h : Hr K M A N S) (x : Int) (hk3 : K ≠ 3) (w : World) (hw : WT w) :
    Calls Tryd.prog 71 #[.int .u64 ((wordOf K M g.toNat A N S : Nat) : Int), .int .i64 x] w fun r w' => r = .returned (.tuple #[.int .u64 ((wordOf K M g.toNat A N S : Nat) : Int), .bool false]) ∧ Below w.heap.size w w' := by
  have c1 := fun w hw => unpack_word g h w hw
  have hk4 := h.k
  clear h
  generalize wordOf K M g.toNat A N S = W at *
  have bel := Below.refl w.heap.size w
  have hk : K = 0 ∨ K = 1 ∨ K = 2 ∨ K = 4 := by omega
  rcases hk with rfl | rfl | rfl | rfl
  all_goals
    go_enter Tryd.func71, Tryd.ntmps71
    go_wp2_with (first | (go_at_call 49; refine (c1 _ hw).mono ?_; rintro r wA ⟨rfl, b⟩; replace hw := hw.below b; replace bel := seq_below bel b; have hs := bel.size; have hp := hw.lt; clear b))
    go_ret2
    exact ⟨rfl, bel.alloc bel.size _⟩

set_option maxHeartbeats 2000000 in
theorem freed_dead {M : Nat} (g : Bool) {A N S : Nat} (h : Hr 3 M A N S) (x : Int) (hx : 4294967295 ≤ (N : Int) ∨ (N : Int) < 4294967295 ∧ x ≤ (N : Int) + 1) (w : World) (hw : WT w) :
    Calls Tryd.prog 71 #[.int .u64 ((wordOf 3 M g.toNat A N S : Nat) : Int), .int .i64 x] w fun r w' => r = .returned (.tuple #[.int .u64 ((wordOf 4 M g.toNat A N S : Nat) : Int), .bool true]) ∧ Below w.heap.size w w' := by
  have c1 := fun w hw => unpack_word g h w hw
  have c5 := fun w hw => pack_word (K := 4) (M := M) g (A := A) (N := N) (S := S) ⟨by decide, h.m, h.a, h.n, h.s⟩ w hw
  have hn := h.n
  clear h
  generalize wordOf 3 M g.toNat A N S = W at *
  generalize wordOf 4 M g.toNat A N S = V at *
  have bel := Below.refl w.heap.size w
  rcases hx with h1 | ⟨h1, h2⟩
  all_goals
    go_enter Tryd.func71, Tryd.ntmps71
    go_wp2_with (first
      | (go_at_call 49; refine (c1 _ hw).mono ?_; rintro r wA ⟨rfl, b⟩; replace hw := hw.below b; replace bel := seq_below bel b; have hs := bel.size; have hp := hw.lt; clear b)
      | (go_at_call 86; refine (c5 _ (hw.new _)).mono ?_; rintro r wC ⟨rfl, b⟩; replace bel := new_below bel b; clear b))
    go_ret2
    exact ⟨rfl, bel⟩

end Go.Proofs.YtjbjijkkmlehgaaDoor.Hh
