/- Contracts of head's Shaded, Blackened and Marked, and of the document's Lives and Marked. -/
import Derived.Test.YtpfcpkkillklkabDoorHhHMore
namespace Go.Proofs.YtpfcpkkillklkabDoor.Hh
open Go.RowKit

theorem region_below {P : Program} {id : Nat} {Q : Exit → Act → World → Prop} {a : Act} {w : World} {l : List Oper} (hm : P.follows .mixedOrders = true) (hB : Region.lexB .any l.toArray = true)
    (h : wpQuiet P l.toArray (fun w' => Below w.heap.size w w') (fun a' => ∀ w', Below w.heap.size w w' → Q .normal a' w') l a) : (Code.region id l.toArray true).wp P Q a w :=
  wp_region_quiet (C := fun w' => Below w.heap.size w w') hm hB ⟨rfl, rfl, rfl, Nat.le_refl _, fun _ _ => rfl⟩ (by simpa using h)

set_option maxHeartbeats 1000000 in
theorem lives_word {K M : Nat} (g : Bool) {A N S : Nat} (h : Hr K M A N S) (w : World) :
    Calls Tryd.prog 13 #[.int .u64 ((wordOf K M g.toNat A N S : Nat) : Int)] w fun r w' => r = .returned (.bool (usedK K)) ∧ Below w.heap.size w w' := by
  have c2 := fun w => runpack_word g h w
  have hk4 := h.k
  clear h
  generalize wordOf K M g.toNat A N S = W at *
  have bel := Below.refl w.heap.size w
  have hk : K = 0 ∨ K = 1 ∨ K = 2 ∨ K = 3 ∨ K = 4 := by omega
  rcases hk with rfl | rfl | rfl | rfl | rfl
  all_goals
    go_enter Tryd.func13, Tryd.ntmps13
    go_wp2_with (first | (go_at_call 33; refine (c2 _).mono ?_; rintro r wA ⟨rfl, b⟩; replace bel := seq_below bel b; clear b))
    go_ret
    exact ⟨rfl, bel.alloc bel.size _⟩

set_option maxHeartbeats 1000000 in
theorem lives_bad {W : Nat} (hW : W < 18446744073709551616) (h : okW W = false) (w : World) :
    Calls Tryd.prog 13 #[.int .u64 (W : Nat)] w fun r w' => r = .returned (.bool false) ∧ Below w.heap.size w w' := by
  have c2 := fun w => runpack_bad hW h w
  clear h
  have bel := Below.refl w.heap.size w
  go_enter Tryd.func13, Tryd.ntmps13
  go_wp2_with (first | (go_at_call 33; refine (c2 _).mono ?_; rintro r wA ⟨rfl, b⟩; replace bel := seq_below bel b; clear b))
  go_ret
  exact ⟨rfl, bel.alloc bel.size _⟩

set_option maxHeartbeats 2000000 in
theorem rmarked_as (W e : Nat) (k m : Int) (g : Bool) (a n s : Int) (right u : Bool) (he : e < 18446744073709551616)
    (c2 : ∀ w, Calls Tryd.prog 33 #[.int .u64 (W : Nat)] w fun r w' => r = .returned (.tuple #[.agg #[.int .i64 k, .int .i64 m, .bool g, .int .i64 a, .int .i64 n, .int .i64 s], .bool right]) ∧ Below w.heap.size w w')
    (c3 : ∀ w, Calls Tryd.prog 13 #[.int .u64 (W : Nat)] w fun r w' => r = .returned (.bool u) ∧ Below w.heap.size w w') (w : World) :
    Calls Tryd.prog 14 #[.int .u64 (W : Nat), .int .u64 (e : Nat)] w fun r w' => r = .returned (.bool (u && decide (m = ((blackN e : Nat) : Int)))) ∧ Below w.heap.size w w' := by
  have c4 := rblack_nat e he
  have bel := Below.refl w.heap.size w
  cases u
  · go_enter Tryd.func14, Tryd.ntmps14
    go_upto_region 2 with (first | (go_at_call 33; refine (c2 _).mono ?_; rintro r wA ⟨rfl, b⟩; replace bel := seq_below bel b; clear b))
    have hb1 := bel.alloc bel.size (Obj.cells #[Value.int IntKind.i64 k, Value.int IntKind.i64 m, Value.bool g, Value.int IntKind.i64 a, Value.int IntKind.i64 n, Value.int IntKind.i64 s] 25)
    generalize wA.alloc (Obj.cells #[Value.int IntKind.i64 k, Value.int IntKind.i64 m, Value.bool g, Value.int IntKind.i64 a, Value.int IntKind.i64 n, Value.int IntKind.i64 s] 25) = w1 at *
    have e1 : ∀ w', Below w1.heap.size w1 w' → Calls Tryd.prog 13 #[.int .u64 (W : Nat)] w' fun r w'' => r = .returned (.bool false) ∧ Below w1.heap.size w1 w'' := fun w' hw' => (c3 w').mono fun _ _ ⟨h1, h2⟩ => ⟨h1, hw'.trans (h2.mono hw'.size)⟩
    refine region_below (by kernel_rfl) (by kernel_rfl) ?_
    repeat (first | go_big_quiet_skip | (go_big_quiet_want; go_big_quiet_op; first | go_big_quiet_on | (refine ⟨_, fun _ _ => rfl, ?_⟩; go_big_quiet_on) | (refine ⟨_, e1, ?_⟩; go_big_quiet_on)))
    refine wpQuiet_nil ?_
    intro w8 hb8
    clear e1
    go_wp2
    go_ret
    exact ⟨rfl, hb1.trans (hb8.mono hb1.size)⟩
  · go_enter Tryd.func14, Tryd.ntmps14
    go_upto_region 2 with (first | (go_at_call 33; refine (c2 _).mono ?_; rintro r wA ⟨rfl, b⟩; replace bel := seq_below bel b; clear b))
    have hb1 := bel.alloc bel.size (Obj.cells #[Value.int IntKind.i64 k, Value.int IntKind.i64 m, Value.bool g, Value.int IntKind.i64 a, Value.int IntKind.i64 n, Value.int IntKind.i64 s] 25)
    have hh1 := hd_new wA k m g a n s
    generalize wA.alloc (Obj.cells #[Value.int IntKind.i64 k, Value.int IntKind.i64 m, Value.bool g, Value.int IntKind.i64 a, Value.int IntKind.i64 n, Value.int IntKind.i64 s] 25) = w1 at *
    have e1 : ∀ w', Below w1.heap.size w1 w' → Calls Tryd.prog 13 #[.int .u64 (W : Nat)] w' fun r w'' => r = .returned (.bool true) ∧ Below w1.heap.size w1 w'' := fun w' hw' => (c3 w').mono fun _ _ ⟨h1, h2⟩ => ⟨h1, hw'.trans (h2.mono hw'.size)⟩
    have e2 : ∀ w', Below w1.heap.size w1 w' → Calls Tryd.prog 24 #[.int .u64 (e : Nat)] w' fun r w'' => r = .returned (.int .i64 ((blackN e : Nat) : Int)) ∧ Below w1.heap.size w1 w'' := fun w' hw' => (c4 w').mono fun _ _ ⟨h1, h2⟩ => ⟨h1, h2 ▸ hw'⟩
    have e3 : ∀ w', Below w1.heap.size w1 w' → w'.cell? ⟨wA.heap.size, 1, none⟩ = some (.int .i64 m) := fun w' hw' => (hh1.below hw').cells.2.1
    refine region_below (by kernel_rfl) (by kernel_rfl) ?_
    repeat (first | go_big_quiet_skip | (go_big_quiet_want; go_big_quiet_op; first | go_big_quiet_on | (refine ⟨_, fun _ _ => rfl, ?_⟩; go_big_quiet_on) | (refine ⟨_, e1, ?_⟩; go_big_quiet_on) | (refine ⟨_, e2, ?_⟩; go_big_quiet_on) | (refine ⟨.int .i64 m, fun w' hw' => by simp [e3 w' hw', Result.andThen], ?_⟩; go_big_quiet_on)))
    refine wpQuiet_nil ?_
    intro w8 hb8
    clear e1 e2 e3
    go_wp2
    go_ret
    refine ⟨congrArg (fun z => Ending.returned (Value.bool z)) ?_, hb1.trans (hb8.mono hb1.size)⟩
    by_cases hm : m = ((blackN e : Nat) : Int) <;> simp [hm]

set_option maxHeartbeats 2000000 in
theorem shaded_word {K M : Nat} (g : Bool) {A N S : Nat} (h : Hr K M A N S) (e : Nat) (he : e < 18446744073709551616) (hz : whiteH K M e = true) (w : World) (hw : WT w) :
    Calls Tryd.prog 50 #[.int .u64 ((wordOf K M g.toNat A N S : Nat) : Int), .int .u64 (e : Nat)] w fun r w' => r = .returned (.tuple #[.int .u64 ((wordOf K (blackN e) (true : Bool).toNat A N S : Nat) : Int), .bool true]) ∧ Below w.heap.size w w' := by
  have c1 := fun w hw => unpack_word g h w hw
  have c3 := fun w => white_any K M g A N S e he w
  rw [hz] at c3
  have c4 := tblack_nat e he
  have c5 := fun w hw => pack_word (K := K) (M := blackN e) true (A := A) (N := N) (S := S) ⟨h.k, blackN_lt e, h.a, h.n, h.s⟩ w hw
  clear h hz
  generalize wordOf K M g.toNat A N S = W at *
  generalize wordOf K (blackN e) (true : Bool).toNat A N S = V at *
  generalize blackN e = B at *
  have bel := Below.refl w.heap.size w
  go_enter Tryd.func50, Tryd.ntmps50
  go_wp2_with (first
    | (go_at_call 40; refine (c1 _ hw).mono ?_; rintro r wA ⟨rfl, b⟩; replace hw := hw.below b; replace bel := seq_below bel b; have hs := bel.size; have hp := hw.lt; clear b)
    | (go_at_call 59; refine (c3 _).mono ?_; rintro r wB ⟨rfl, b⟩; replace hw := (hw.new _).below b; replace bel := new_below bel b; have hh := (hd_new wA _ _ _ _ _ _).below b; obtain ⟨q0, q1, q2, q3, q4, q5⟩ := hh.cells; have qf := hh.free; clear b)
    | (go_at_call 60; refine (c4 _).mono ?_; rintro r w1 ⟨rfl, rfl⟩)
    | (go_at_call 61; refine (c5 _ ((hw.set hp _).set hp _)).mono ?_; rintro r wC ⟨rfl, b⟩; replace bel := seq_below ((bel.setCell hs _).setCell hs _) b; clear b))
  go_ret2
  exact ⟨rfl, bel⟩

set_option maxHeartbeats 2000000 in
theorem shaded_not {K M : Nat} (g : Bool) {A N S : Nat} (h : Hr K M A N S) (e : Nat) (he : e < 18446744073709551616) (hz : whiteH K M e = false) (w : World) (hw : WT w) :
    Calls Tryd.prog 50 #[.int .u64 ((wordOf K M g.toNat A N S : Nat) : Int), .int .u64 (e : Nat)] w fun r w' => r = .returned (.tuple #[.int .u64 ((wordOf K M g.toNat A N S : Nat) : Int), .bool false]) ∧ Below w.heap.size w w' := by
  have c1 := fun w hw => unpack_word g h w hw
  have c3 := fun w => white_any K M g A N S e he w
  rw [hz] at c3
  clear h hz
  generalize wordOf K M g.toNat A N S = W at *
  have bel := Below.refl w.heap.size w
  go_enter Tryd.func50, Tryd.ntmps50
  go_wp2_with (first
    | (go_at_call 40; refine (c1 _ hw).mono ?_; rintro r wA ⟨rfl, b⟩; replace hw := hw.below b; replace bel := seq_below bel b; have hs := bel.size; have hp := hw.lt; clear b)
    | (go_at_call 59; refine (c3 _).mono ?_; rintro r wB ⟨rfl, b⟩; replace bel := new_below bel b; clear b))
  go_ret2
  exact ⟨rfl, bel⟩

set_option maxHeartbeats 1000000 in
theorem shaded_bad {W : Nat} (hW : W < 18446744073709551616) (h : okW W = false) (e : Nat) (w : World) (hw : WT w) :
    Calls Tryd.prog 50 #[.int .u64 (W : Nat), .int .u64 (e : Nat)] w fun r w' => r = .returned (.tuple #[.int .u64 (W : Nat), .bool false]) ∧ Below w.heap.size w w' := by
  have c1 := fun w hw => unpack_bad hW h w hw
  clear h
  have bel := Below.refl w.heap.size w
  go_enter Tryd.func50, Tryd.ntmps50
  go_wp2_with (first | (go_at_call 40; refine (c1 _ hw).mono ?_; rintro r wA ⟨rfl, b⟩; replace hw := hw.below b; replace bel := seq_below bel b; have hs := bel.size; have hp := hw.lt; clear b))
  go_ret2
  exact ⟨rfl, bel.alloc bel.size _⟩

end Go.Proofs.YtpfcpkkillklkabDoor.Hh
