/- Contracts of head's Retired and Freed. -/
import Derived.Test.YtjoehcdkiooimacDoorHShade
namespace Go.Proofs.YtjoehcdkiooimacDoor
open Go.RowKit

theorem WT.drewN {w : World} (h : WT w) (m : Nat) : WT (w.drewN m) := h

def stampN (e : Nat) : Nat := e % 65536
theorem stamp_get (e : Nat) : getN e 0 16 = stampN e := by simp [getN, stampN]

set_option maxHeartbeats 4000000 in
theorem retired_word {K M : Nat} (g : Bool) {A N S : Nat} (h : Hr K M A N S) (e : Nat) (he : e < 18446744073709551616) (hz : whiteH K M e = true) (w : World) (hw : WT w) :
    Calls Tryd.prog 6 #[.int .u64 ((wordOf K M g.toNat A N S : Nat) : Int), .int .u64 (e : Nat)] w fun r w' => r = .returned (.tuple #[.int .u64 ((wordOf 3 M (false : Bool).toNat A N (stampN e) : Nat) : Int), .bool true]) ∧ Below w.heap.size w w' := by
  have c1 := fun w hw => unpack_word g h w hw
  have c3 := fun w => white_any K M g A N S e he w
  rw [hz] at c3
  have c6 := fun w => get_yes e 0 16 he (by decide) (by decide) w
  rw [stamp_get] at c6
  have hv : stampN e < 65536 := Nat.mod_lt _ (by decide)
  have c5 := fun w hw => pack_word (K := 3) (M := M) false (A := A) (N := N) (S := stampN e) ⟨by decide, h.m, h.a, h.n, hv⟩ w hw
  clear h hz
  generalize wordOf K M g.toNat A N S = W at *
  generalize wordOf 3 M (false : Bool).toNat A N (stampN e) = V at *
  generalize stampN e = Z at *
  have bel := Below.refl w.heap.size w
  go_enter Tryd.func6, Tryd.ntmps6
  go_wp2_with (first
    | (go_at_call 15; refine (c1 _ hw).mono ?_; rintro r wA ⟨rfl, b⟩; replace hw := hw.below b; replace bel := seq_below bel b; have hs := bel.size; have hp := hw.lt; clear b)
    | (go_at_call 16; refine (c3 _).mono ?_; rintro r wB ⟨rfl, b⟩; replace hw := (hw.new _).below b; replace bel := new_below bel b; have hh := (hd_new wA _ _ _ _ _ _).below b; obtain ⟨q0, q1, q2, q3, q4, q5⟩ := hh.cells; have qf := hh.free; clear b)
    | (go_at_call 17; refine (c6 _).mono ?_; rintro r w1 ⟨rfl, mq, rfl⟩)
    | (go_at_call 18; refine (c5 _ ((((hw.set hp _).set hp _).drewN mq).set hp _)).mono ?_; rintro r wC ⟨rfl, b⟩; replace bel := seq_below ((below_drewN ((bel.setCell hs _).setCell hs _) mq).setCell hs _) b; clear b))
  go_ret2
  exact ⟨rfl, bel⟩

set_option maxHeartbeats 2000000 in
theorem retired_not {K M : Nat} (g : Bool) {A N S : Nat} (h : Hr K M A N S) (e : Nat) (he : e < 18446744073709551616) (hz : whiteH K M e = false) (w : World) (hw : WT w) :
    Calls Tryd.prog 6 #[.int .u64 ((wordOf K M g.toNat A N S : Nat) : Int), .int .u64 (e : Nat)] w fun r w' => r = .returned (.tuple #[.int .u64 ((wordOf K M g.toNat A N S : Nat) : Int), .bool false]) ∧ Below w.heap.size w w' := by
  have c1 := fun w hw => unpack_word g h w hw
  have c3 := fun w => white_any K M g A N S e he w
  rw [hz] at c3
  clear h hz
  generalize wordOf K M g.toNat A N S = W at *
  have bel := Below.refl w.heap.size w
  go_enter Tryd.func6, Tryd.ntmps6
  go_wp2_with (first
    | (go_at_call 15; refine (c1 _ hw).mono ?_; rintro r wA ⟨rfl, b⟩; replace hw := hw.below b; replace bel := seq_below bel b; have hs := bel.size; have hp := hw.lt; clear b)
    | (go_at_call 16; refine (c3 _).mono ?_; rintro r wB ⟨rfl, b⟩; replace bel := new_below bel b; clear b))
  go_ret2
  exact ⟨rfl, bel⟩

set_option maxHeartbeats 1000000 in
theorem retired_bad {W : Nat} (hW : W < 18446744073709551616) (h : okW W = false) (e : Nat) (w : World) (hw : WT w) :
    Calls Tryd.prog 6 #[.int .u64 (W : Nat), .int .u64 (e : Nat)] w fun r w' => r = .returned (.tuple #[.int .u64 (W : Nat), .bool false]) ∧ Below w.heap.size w w' := by
  have c1 := fun w hw => unpack_bad hW h w hw
  clear h
  have bel := Below.refl w.heap.size w
  go_enter Tryd.func6, Tryd.ntmps6
  go_wp2_with (first | (go_at_call 15; refine (c1 _ hw).mono ?_; rintro r wA ⟨rfl, b⟩; replace hw := hw.below b; replace bel := seq_below bel b; have hs := bel.size; have hp := hw.lt; clear b))
  go_ret2
  exact ⟨rfl, bel.alloc bel.size _⟩

set_option maxHeartbeats 1000000 in
theorem freed_bad {W : Nat} (hW : W < 18446744073709551616) (h : okW W = false) (x : Int) (w : World) (hw : WT w) :
    Calls Tryd.prog 7 #[.int .u64 (W : Nat), .int .i64 x] w fun r w' => r = .returned (.tuple #[.int .u64 (W : Nat), .bool false]) ∧ Below w.heap.size w w' := by
  have c1 := fun w hw => unpack_bad hW h w hw
  clear h
  have bel := Below.refl w.heap.size w
  go_enter Tryd.func7, Tryd.ntmps7
  go_wp2_with (first | (go_at_call 15; refine (c1 _ hw).mono ?_; rintro r wA ⟨rfl, b⟩; replace hw := hw.below b; replace bel := seq_below bel b; have hs := bel.size; have hp := hw.lt; clear b))
  go_ret2
  exact ⟨rfl, bel.alloc bel.size _⟩

set_option maxHeartbeats 2000000 in
theorem freed_not {K M : Nat} (g : Bool) {A N S : Nat} (h : Hr K M A N S) (x : Int) (hk3 : K ≠ 3) (w : World) (hw : WT w) :
    Calls Tryd.prog 7 #[.int .u64 ((wordOf K M g.toNat A N S : Nat) : Int), .int .i64 x] w fun r w' => r = .returned (.tuple #[.int .u64 ((wordOf K M g.toNat A N S : Nat) : Int), .bool false]) ∧ Below w.heap.size w w' := by
  have c1 := fun w hw => unpack_word g h w hw
  have hk4 := h.k
  clear h
  generalize wordOf K M g.toNat A N S = W at *
  have bel := Below.refl w.heap.size w
  have hk : K = 0 ∨ K = 1 ∨ K = 2 ∨ K = 4 := by omega
  rcases hk with rfl | rfl | rfl | rfl
  all_goals
    go_enter Tryd.func7, Tryd.ntmps7
    go_wp2_with (first | (go_at_call 15; refine (c1 _ hw).mono ?_; rintro r wA ⟨rfl, b⟩; replace hw := hw.below b; replace bel := seq_below bel b; have hs := bel.size; have hp := hw.lt; clear b))
    go_ret2
    exact ⟨rfl, bel.alloc bel.size _⟩

set_option maxHeartbeats 2000000 in
theorem freed_dead {M : Nat} (g : Bool) {A N S : Nat} (h : Hr 3 M A N S) (x : Int) (hx : 4294967295 ≤ (N : Int) ∨ (N : Int) < 4294967295 ∧ x ≤ (N : Int) + 1) (w : World) (hw : WT w) :
    Calls Tryd.prog 7 #[.int .u64 ((wordOf 3 M g.toNat A N S : Nat) : Int), .int .i64 x] w fun r w' => r = .returned (.tuple #[.int .u64 ((wordOf 4 M g.toNat A N S : Nat) : Int), .bool true]) ∧ Below w.heap.size w w' := by
  have c1 := fun w hw => unpack_word g h w hw
  have c5 := fun w hw => pack_word (K := 4) (M := M) g (A := A) (N := N) (S := S) ⟨by decide, h.m, h.a, h.n, h.s⟩ w hw
  have hn := h.n
  clear h
  generalize wordOf 3 M g.toNat A N S = W at *
  generalize wordOf 4 M g.toNat A N S = V at *
  have bel := Below.refl w.heap.size w
  rcases hx with h1 | ⟨h1, h2⟩
  all_goals
    go_enter Tryd.func7, Tryd.ntmps7
    go_wp2_with (first
      | (go_at_call 15; refine (c1 _ hw).mono ?_; rintro r wA ⟨rfl, b⟩; replace hw := hw.below b; replace bel := seq_below bel b; have hs := bel.size; have hp := hw.lt; clear b)
      | (go_at_call 18; refine (c5 _ (hw.new _)).mono ?_; rintro r wC ⟨rfl, b⟩; replace bel := new_below bel b; clear b))
    go_ret2
    exact ⟨rfl, bel⟩

end Go.Proofs.YtjoehcdkiooimacDoor
