/- Contracts of head's Shaded, Blackened and Marked, and of the document's Lives and Marked. -/
import Derived.Test.YtnegdabcjnhpdaaGreatDoorHhHMore
namespace Go.Proofs.YtnegdabcjnhpdaaGreatDoor.Hh
open Go.RowKit

theorem region_below {P : Program} {id : Nat} {Q : Exit → Act → World → Prop} {a : Act} {w : World} {l : List Oper} (hm : P.follows .mixedOrders = true) (hB : Region.lexB .any l.toArray = true)
    (h : wpQuiet P l.toArray (fun w' => Below w.heap.size w w') (fun a' => ∀ w', Below w.heap.size w w' → Q .normal a' w') l a) : (Code.region id l.toArray true).wp P Q a w :=
  wp_region_quiet (C := fun w' => Below w.heap.size w w') hm hB ⟨rfl, rfl, rfl, Nat.le_refl _, fun _ _ => rfl⟩ (by simpa using h)

set_option maxHeartbeats 2000000 in
theorem shaded_word {K M : Nat} (g : Bool) {A N S : Nat} (h : Hr K M A N S) (e : Nat) (he : e < 18446744073709551616) (hz : whiteH K M e = true) (w : World) (hw : WT w) :
    Calls Tryz.prog 86 #[.int .u64 ((wordOf K M g.toNat A N S : Nat) : Int), .int .u64 (e : Nat)] w fun r w' => r = .returned (.tuple #[.int .u64 ((wordOf K (blackN e) (true : Bool).toNat A N S : Nat) : Int), .bool true]) ∧ Below w.heap.size w w' := by
  have c1 := fun w hw => unpack_word g h w hw
  have c3 := fun w => white_any K M g A N S e he w
  rw [hz] at c3
  have c4 := tblack_nat e he
  have c5 := fun w hw => pack_word (K := K) (M := blackN e) true (A := A) (N := N) (S := S) ⟨h.k, blackN_lt e, h.a, h.n, h.s⟩ w hw
  clear h hz
  generalize wordOf K M g.toNat A N S = W at *
  generalize wordOf K (blackN e) (true : Bool).toNat A N S = V at *
  generalize blackN e = B at *
  have bel := Below.refl w.heap.size w
  go_enter Tryz.func86, Tryz.ntmps86
  go_wp2_with (first
    | (go_at_call 89; refine (c1 _ hw).mono ?_; rintro r wA ⟨rfl, b⟩; replace hw := hw.below b; replace bel := seq_below bel b; have hs := bel.size; have hp := hw.lt; clear b)
    | (go_at_call 90; refine (c3 _).mono ?_; rintro r wB ⟨rfl, b⟩; replace hw := (hw.new _).below b; replace bel := new_below bel b; have hh := (hd_new wA _ _ _ _ _ _).below b; obtain ⟨q0, q1, q2, q3, q4, q5⟩ := hh.cells; have qf := hh.free; clear b)
    | (go_at_call 91; refine (c4 _).mono ?_; rintro r w1 ⟨rfl, rfl⟩)
    | (go_at_call 92; refine (c5 _ ((hw.set hp _).set hp _)).mono ?_; rintro r wC ⟨rfl, b⟩; replace bel := seq_below ((bel.setCell hs _).setCell hs _) b; clear b))
  go_ret2
  exact ⟨rfl, bel⟩

set_option maxHeartbeats 2000000 in
theorem shaded_not {K M : Nat} (g : Bool) {A N S : Nat} (h : Hr K M A N S) (e : Nat) (he : e < 18446744073709551616) (hz : whiteH K M e = false) (w : World) (hw : WT w) :
    Calls Tryz.prog 86 #[.int .u64 ((wordOf K M g.toNat A N S : Nat) : Int), .int .u64 (e : Nat)] w fun r w' => r = .returned (.tuple #[.int .u64 ((wordOf K M g.toNat A N S : Nat) : Int), .bool false]) ∧ Below w.heap.size w w' := by
  have c1 := fun w hw => unpack_word g h w hw
  have c3 := fun w => white_any K M g A N S e he w
  rw [hz] at c3
  clear h hz
  generalize wordOf K M g.toNat A N S = W at *
  have bel := Below.refl w.heap.size w
  go_enter Tryz.func86, Tryz.ntmps86
  go_wp2_with (first
    | (go_at_call 89; refine (c1 _ hw).mono ?_; rintro r wA ⟨rfl, b⟩; replace hw := hw.below b; replace bel := seq_below bel b; have hs := bel.size; have hp := hw.lt; clear b)
    | (go_at_call 90; refine (c3 _).mono ?_; rintro r wB ⟨rfl, b⟩; replace bel := new_below bel b; clear b))
  go_ret2
  exact ⟨rfl, bel⟩

set_option maxHeartbeats 1000000 in
theorem shaded_bad {W : Nat} (hW : W < 18446744073709551616) (h : okW W = false) (e : Nat) (w : World) (hw : WT w) :
    Calls Tryz.prog 86 #[.int .u64 (W : Nat), .int .u64 (e : Nat)] w fun r w' => r = .returned (.tuple #[.int .u64 (W : Nat), .bool false]) ∧ Below w.heap.size w w' := by
  have c1 := fun w hw => unpack_bad hW h w hw
  clear h
  have bel := Below.refl w.heap.size w
  go_enter Tryz.func86, Tryz.ntmps86
  go_wp2_with (first | (go_at_call 89; refine (c1 _ hw).mono ?_; rintro r wA ⟨rfl, b⟩; replace hw := hw.below b; replace bel := seq_below bel b; have hs := bel.size; have hp := hw.lt; clear b))
  go_ret2
  exact ⟨rfl, bel.alloc bel.size _⟩

end Go.Proofs.YtnegdabcjnhpdaaGreatDoor.Hh
