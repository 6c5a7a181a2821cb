/- The contract of head.Freed where the slot is free again. -/
import Derived.Test.YtjbjijkkmlehgaaDoorHhHRet
namespace Go.Proofs.YtjbjijkkmlehgaaDoor.Hh
open Go.RowKit

set_option maxRecDepth 100000 in
set_option maxHeartbeats 2000000 in
theorem freed_free {M : Nat} (g : Bool) {A N S : Nat} (h : Hr 3 M A N S) (x : Int) (h1 : (N : Int) < 4294967295) (h2 : (N : Int) + 1 < x) (w : World) (hw : WT w) :
    Calls Tryd.prog 71 #[.int .u64 ((wordOf 3 M g.toNat A N S : Nat) : Int), .int .i64 x] w fun r w' => r = .returned (.tuple #[.int .u64 ((wordOf 0 0 (false : Bool).toNat 0 (N + 1) 0 : Nat) : Int), .bool true]) ∧ Below w.heap.size w w' := by
  have c1 := fun w hw => unpack_word g h w hw
  have c5 : ∀ w, WT w → Calls Tryd.prog 86 #[.agg #[.int .i64 0, .int .i64 0, .bool false, .int .i64 0, .int .i64 ((N : Int) + 1), .int .i64 0]] w fun e w' => e = .returned (.tuple #[.int .u64 ((wordOf 0 0 (false : Bool).toNat 0 (N + 1) 0 : Nat) : Int), .bool true]) ∧ Below w.heap.size w w' := by
    intro w hw
    have c := pack_word (K := 0) (M := 0) false (A := 0) (N := N + 1) (S := 0) ⟨by decide, by decide, by decide, by omega, by decide⟩ w hw
    have e : ((N + 1 : Nat) : Int) = (N : Int) + 1 := by omega
    rw [e] at c
    exact c
  clear h
  generalize wordOf 3 M g.toNat A N S = W at *
  generalize wordOf 0 0 (false : Bool).toNat 0 (N + 1) 0 = V at *
  have bel := Below.refl w.heap.size w
  have hn0 : 0 ≤ (N : Int) := by omega
  generalize (N : Int) = n at *
  go_enter Tryd.func71, Tryd.ntmps71
  go_wp2_with (first
    | (go_at_call 49; refine (c1 _ hw).mono ?_; rintro r wA ⟨rfl, b⟩; replace hw := hw.below b; replace bel := seq_below bel b; have hs := bel.size; have hp := hw.lt; clear b)
    | (go_at_call 86; refine (c5 _ (hw.new _)).mono ?_; rintro r wC ⟨rfl, b⟩; replace bel := new_below bel b; clear b))
  go_ret2
  exact ⟨rfl, bel⟩
end Go.Proofs.YtjbjijkkmlehgaaDoor.Hh
