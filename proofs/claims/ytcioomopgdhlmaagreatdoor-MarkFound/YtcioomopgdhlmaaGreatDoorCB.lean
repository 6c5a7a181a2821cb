/- Places of entries, views, starts and bodies; parts of an entry; head's Marked, Shaded, Blackened; a memory's Add. -/
import Derived.Test.YtcioomopgdhlmaaGreatDoorDB
import Derived.Test.YtcioomopgdhlmaaGreatDoorPSizes
namespace Go.Proofs.YtcioomopgdhlmaaGreatDoor
open Go.RowKit
open Mm (IsMem MS touched Only IsWords)
open Hh (WT okW whiteH wordOf Hr blackN usedK)
set_option maxHeartbeats 1000000 in
theorem hasClient_any (s a c d g k i : Int) (w : World) : Calls Tryz.prog 80 #[.agg (cs s a c d g k), .int .i64 i] w fun e w' => e = .returned (.bool (rightB s a c d g k && be i c)) ∧ Below w.heap.size w w' := by
  have c1 := right_any s a c d g k
  have c2 := isBelow_any i c
  generalize rightB s a c d g k = b1 at *
  generalize be i c = b2 at *
  have hh := cfg_new w s a c d g k
  have bel := alloc_below w (.cells #[.int .i64 s, .int .i64 a, .int .i64 c, .int .i64 d, .int .i64 g, .int .i64 k] 23)
  go_enter Tryz.func80, Tryz.ntmps80
  cases b1
  · go_wp2_with (go_at_call 17; refine (c1 _).mono ?_; rintro e w1 ⟨rfl, b⟩; replace bel := seq_below bel b)
    go_ret
    exact ⟨rfl, bel⟩
  · go_wp2_with (first
      | (go_at_call 17; refine (c1 _).mono ?_; rintro e w1 ⟨rfl, b⟩; replace bel := seq_below bel b; replace hh := (hh.below b).cells)
      | (go_at_call 73; refine (c2 _).mono ?_; rintro e w1 ⟨rfl, rfl⟩))
    go_ret
    exact ⟨rfl, bel⟩
end Go.Proofs.YtcioomopgdhlmaaGreatDoor
namespace Go.Proofs.YtcioomopgdhlmaaGreatDoor
open Go.RowKit
open Mm (IsMem MS touched Only IsWords)
open Hh (WT okW whiteH wordOf Hr blackN usedK)
set_option linter.unusedSimpArgs false in
set_option maxHeartbeats 1000000 in
theorem size_yes {s a c d g k : Int} (hr : rightB s a c d g k = true) (w : World) : Calls Tryz.prog 18 #[.agg (cs s a c d g k)] w fun e w' => e = .returned (.int .i64 (szI s a c d)) ∧ Below w.heap.size w w' := by
  have h := rt_of hr
  have c1 := right_any s a c d g k
  rw [hr] at c1
  have f1 := firstSlot_r h g k
  have f2 := slotSize_r h g k
  have b1 := h.fs
  have b2 := h.ss
  have b3 := h.sm (i := s) (by have := h.s; omega)
  clear h hr
  unfold szI
  generalize fsI c d = F at *
  generalize ssI a = S at *
  have bel := alloc_below w (.cells #[.int .i64 s, .int .i64 a, .int .i64 c, .int .i64 d, .int .i64 g, .int .i64 k] 23)
  have hh := cfg_new w s a c d g k
  go_enter Tryz.func18, Tryz.ntmps18
  go_upto_region 3 with (go_at_call 17; refine (c1 _).mono ?_; rintro e w1 ⟨rfl, b⟩; replace bel := seq_below bel b; replace hh := hh.below b)
  have e1 := in_region f1 w1
  have e3 := in_region f2 w1
  have e2 : ∀ w', Below w1.heap.size w1 w' → _ := fun w' hw' => (hh.below hw').cells
  refine region_below (by kernel_rfl) (by kernel_rfl) ?_
  repeat (first | go_big_quiet_skip | (go_big_quiet_want; go_big_quiet_op; first | go_big_quiet_on | (refine ⟨_, fun _ _ => rfl, ?_⟩; go_big_quiet_on) | (refine ⟨_, e1, ?_⟩; go_big_quiet_on) | (refine ⟨_, e3, ?_⟩; go_big_quiet_on) | (refine ⟨.int .i64 s, ?_, ?_⟩; (focus (intro w' hw'; obtain ⟨l, _⟩ := e2 w' hw'; simp [l, Result.andThen]; done)); go_big_quiet_on) | (refine ⟨.agg (cs s a c d g k), ?_, ?_⟩; (focus (intro w' hw'; obtain ⟨l0, l1, l2, l3, l4, l5⟩ := e2 w' hw'; simp [l0, l1, l2, l3, l4, l5, Result.andThen]; done)); go_big_quiet_on)))
  refine wpQuiet_nil ?_
  intro w8 hb8
  replace bel := seq_below bel hb8
  clear e1 e2 e3
  go_wp2
  go_ret
  exact ⟨rfl, bel⟩
set_option linter.unusedSimpArgs false in
set_option maxHeartbeats 1000000 in
theorem view_yes {s a c d g k : Int} (i : Int) (hr : rightB s a c d g k = true) (hi : be i c = true) (w : World) : Calls Tryz.prog 82 #[.agg (cs s a c d g k), .int .i64 i] w fun e w' => e = .returned (.int .i64 (4 + c + c * d + 2 * i)) ∧ Below w.heap.size w w' := by
  have h := rt_of hr
  have c1 := hasClient_any s a c d g k i
  rw [hr, hi, Bool.true_and] at c1
  have hi' := be_iff.1 hi
  have hc := h.c
  have hcd := h.cd
  have f1 := firstView_any s a c d g k hc hcd
  clear h hr hi
  have bel := alloc_below w (.cells #[.int .i64 s, .int .i64 a, .int .i64 c, .int .i64 d, .int .i64 g, .int .i64 k] 23)
  have hh := cfg_new w s a c d g k
  go_enter Tryz.func82, Tryz.ntmps82
  go_wp2_with (first
    | (go_at_call 80; refine (c1 _).mono ?_; rintro e w1 ⟨rfl, b⟩; replace bel := seq_below bel b; replace hh := hh.below b; obtain ⟨l0, l1, l2, l3, l4, l5⟩ := hh.cells)
    | (go_at_call 71; refine (f1 _).mono ?_; rintro e w1 ⟨rfl, b⟩; replace bel := seq_below bel b))
  go_ret
  exact ⟨rfl, bel⟩
set_option linter.unusedSimpArgs false in
set_option maxHeartbeats 1000000 in
theorem start_yes {s a c d g k : Int} (i : Int) (hr : rightB s a c d g k = true) (hi : be i c = true) (w : World) : Calls Tryz.prog 58 #[.agg (cs s a c d g k), .int .i64 i] w fun e w' => e = .returned (.int .i64 (4 + c + c * d + 2 * i + 1)) ∧ Below w.heap.size w w' := by
  have h := rt_of hr
  have c1 := hasClient_any s a c d g k i
  rw [hr, hi, Bool.true_and] at c1
  have hi' := be_iff.1 hi
  have hc := h.c
  have hcd := h.cd
  have f1 := view_yes i hr hi
  clear h hr hi
  have bel := alloc_below w (.cells #[.int .i64 s, .int .i64 a, .int .i64 c, .int .i64 d, .int .i64 g, .int .i64 k] 23)
  have hh := cfg_new w s a c d g k
  go_enter Tryz.func58, Tryz.ntmps58
  go_wp2_with (first
    | (go_at_call 80; refine (c1 _).mono ?_; rintro e w1 ⟨rfl, b⟩; replace bel := seq_below bel b; replace hh := hh.below b; obtain ⟨l0, l1, l2, l3, l4, l5⟩ := hh.cells)
    | (go_at_call 82; refine (f1 _).mono ?_; rintro e w1 ⟨rfl, b⟩; replace bel := seq_below bel b))
  go_ret
  exact ⟨rfl, bel⟩
set_option linter.unusedSimpArgs false in
set_option maxHeartbeats 1000000 in
theorem entry_yes {s a c d g k : Int} (i j : Int) (hr : rightB s a c d g k = true) (hi : be i c = true) (hj0 : be j d = true) (w : World) : Calls Tryz.prog 56 #[.agg (cs s a c d g k), .int .i64 i, .int .i64 j] w fun e w' => e = .returned (.int .i64 (4 + c + i * d + j)) ∧ Below w.heap.size w w' := by
  have h := rt_of hr
  have c1 := hasClient_any s a c d g k i
  rw [hr, hi, Bool.true_and] at c1
  have hi' := be_iff.1 hi
  have hj := be_iff.1 hj0
  have hc := h.c
  have hd := h.d
  have hid : 0 ≤ i * d ∧ i * d ≤ 128 := mul_b (X := 8) (Y := 16) (by omega) (by omega)
  have f1 := firstEntry_any s a c d g k hc
  have c2 := isBelow_any j d
  rw [hj0] at c2
  clear h hr hi hj0
  have bel := alloc_below w (.cells #[.int .i64 s, .int .i64 a, .int .i64 c, .int .i64 d, .int .i64 g, .int .i64 k] 23)
  have hh := cfg_new w s a c d g k
  go_enter Tryz.func56, Tryz.ntmps56
  go_upto_region 3 with (first
    | (go_at_call 80; refine (c1 _).mono ?_; rintro e w1 ⟨rfl, b⟩; replace bel := seq_below bel b; replace hh := hh.below b; obtain ⟨l0, l1, l2, l3, l4, l5⟩ := hh.cells)
    | (go_at_call 73; refine (c2 _).mono ?_; rintro e w1 ⟨rfl, rfl⟩))
  have e1 := in_region f1 w1
  have e2 : ∀ w', Below w1.heap.size w1 w' → _ := fun w' hw' => (hh.below hw').cells
  refine region_below (by kernel_rfl) (by kernel_rfl) ?_
  repeat (first | go_big_quiet_skip | (go_big_quiet_want; go_big_quiet_op; first | go_big_quiet_on | (refine ⟨_, fun _ _ => rfl, ?_⟩; go_big_quiet_on) | (refine ⟨_, e1, ?_⟩; go_big_quiet_on) | (refine ⟨.int .i64 d, ?_, ?_⟩; (focus (intro w' hw'; obtain ⟨_, _, _, l, _⟩ := e2 w' hw'; simp [l, Result.andThen]; done)); go_big_quiet_on) | (refine ⟨.agg (cs s a c d g k), ?_, ?_⟩; (focus (intro w' hw'; obtain ⟨l0, l1, l2, l3, l4, l5⟩ := e2 w' hw'; simp [l0, l1, l2, l3, l4, l5, Result.andThen]; done)); go_big_quiet_on)))
  refine wpQuiet_nil ?_
  intro w8 hb8
  replace bel := seq_below bel hb8
  clear e1 e2
  go_wp2
  go_ret
  exact ⟨rfl, bel⟩
set_option maxHeartbeats 1000000 in
theorem body_no {s a c d g k : Int} (i j : Int) (hr : (rightB s a c d g k && be i s) = false) (w : World) : Calls Tryz.prog 60 #[.agg (cs s a c d g k), .int .i64 i, .int .i64 j] w fun e w' => e = .returned (.int .i64 (-1)) ∧ Below w.heap.size w w' := by
  have c1 := hasSlot_any s a c d g k i
  rw [hr] at c1
  have bel := alloc_below w (.cells #[.int .i64 s, .int .i64 a, .int .i64 c, .int .i64 d, .int .i64 g, .int .i64 k] 23)
  have hh := cfg_new w s a c d g k
  go_enter Tryz.func60, Tryz.ntmps60
  go_wp2_with (go_at_call 49; refine (c1 _).mono ?_; rintro e w1 ⟨rfl, b⟩; replace bel := seq_below bel b; replace hh := hh.below b)
  go_ret
  exact ⟨rfl, bel⟩
set_option linter.unusedSimpArgs false in
set_option maxHeartbeats 1000000 in
theorem body_yes {s a c d g k : Int} (i j : Int) (hr : rightB s a c d g k = true) (hi : be i s = true) (hj0 : be j (bsI a) = true) (w : World) : Calls Tryz.prog 60 #[.agg (cs s a c d g k), .int .i64 i, .int .i64 j] w fun e w' => e = .returned (.int .i64 (fsI c d + i * ssI a + 2 + j)) ∧ Below w.heap.size w w' := by
  have h := rt_of hr
  have c1 := hasSlot_any s a c d g k i
  rw [hr, hi, Bool.true_and] at c1
  have hi' := be_iff.1 hi
  have hj := be_iff.1 hj0
  have hs := h.s
  have b1 := h.fs
  have b3 := h.sm (i := i) (by omega)
  have b4 := bsI_b a h.a
  have f1 := header_yes i hr hi
  have f2 := bodySize_any s a c d g k
  have c2 := isBelow_any j (bsI a)
  rw [hj0] at c2
  clear h hr hi hj0
  generalize fsI c d = F at *
  generalize ssI a = S at *
  generalize bsI a = B at *
  generalize i * S = P at *
  have bel := alloc_below w (.cells #[.int .i64 s, .int .i64 a, .int .i64 c, .int .i64 d, .int .i64 g, .int .i64 k] 23)
  have hh := cfg_new w s a c d g k
  go_enter Tryz.func60, Tryz.ntmps60
  go_wp2_with (first
    | (go_at_call 49; refine (c1 _).mono ?_; rintro e w1 ⟨rfl, b⟩; replace bel := seq_below bel b; replace hh := hh.below b; obtain ⟨l0, l1, l2, l3, l4, l5⟩ := hh.cells)
    | (go_at_call 19; refine (f1 _).mono ?_; rintro e w1 ⟨rfl, b⟩; replace bel := seq_below bel b)
    | (go_at_call 72; refine (f2 _).mono ?_; rintro e w1 ⟨rfl, b⟩; replace bel := seq_below bel b; replace hh := hh.below b; obtain ⟨l0, l1, l2, l3, l4, l5⟩ := hh.cells)
    | (go_at_call 73; refine (c2 _).mono ?_; rintro e w1 ⟨rfl, rfl⟩))
  go_ret
  exact ⟨rfl, bel⟩
set_option maxHeartbeats 1000000 in
theorem body_no2 {s a c d g k : Int} (i j : Int) (hr : (rightB s a c d g k && be i s) = true) (hj0 : be j (bsI a) = false) (w : World) : Calls Tryz.prog 60 #[.agg (cs s a c d g k), .int .i64 i, .int .i64 j] w fun e w' => e = .returned (.int .i64 (-1)) ∧ Below w.heap.size w w' := by
  have c1 := hasSlot_any s a c d g k i
  rw [hr] at c1
  have c2 := isBelow_any j (bsI a)
  have f2 := bodySize_any s a c d g k
  rw [hj0] at c2
  clear hr hj0
  generalize bsI a = B at *
  have bel := alloc_below w (.cells #[.int .i64 s, .int .i64 a, .int .i64 c, .int .i64 d, .int .i64 g, .int .i64 k] 23)
  have hh := cfg_new w s a c d g k
  go_enter Tryz.func60, Tryz.ntmps60
  go_wp2_with (first
    | (go_at_call 49; refine (c1 _).mono ?_; rintro e w1 ⟨rfl, b⟩; replace bel := seq_below bel b; replace hh := hh.below b; obtain ⟨l0, l1, l2, l3, l4, l5⟩ := hh.cells)
    | (go_at_call 72; refine (f2 _).mono ?_; rintro e w1 ⟨rfl, b⟩; replace bel := seq_below bel b; replace hh := hh.below b; obtain ⟨l0, l1, l2, l3, l4, l5⟩ := hh.cells)
    | (go_at_call 73; refine (c2 _).mono ?_; rintro e w1 ⟨rfl, rfl⟩))
  go_ret
  exact ⟨rfl, bel⟩
end Go.Proofs.YtcioomopgdhlmaaGreatDoor
namespace Go.Proofs.YtcioomopgdhlmaaGreatDoor.Tg
open Go.RowKit
set_option maxHeartbeats 400000 in
theorem entryParts_any (W : Nat) (hW : W < 18446744073709551616) (w : World) :
    Calls Tryz.prog 55 #[.int .u64 W] w fun e w' => e = .returned (.tuple #[.int .u64 (W / 4294967296 : Nat), .int .i64 (((W % 4294967296 : Nat) : Int) - 1)]) ∧ Below w.heap.size w w' := by
  have c := part32_any W hW
  generalize W / 4294967296 = x at *
  generalize ((W % 4294967296 : Nat) : Int) - 1 = y at *
  go_enter Tryz.func55, Tryz.ntmps55
  go_wp2_with (go_at_call 79; refine (c _).mono ?_; rintro e w' ⟨rfl, b⟩)
  go_ret2
  exact ⟨rfl, b⟩
end Go.Proofs.YtcioomopgdhlmaaGreatDoor.Tg
namespace Go.Proofs.YtcioomopgdhlmaaGreatDoor.Hh
open Go.RowKit
set_option maxHeartbeats 2000000 in
theorem marked_word {K M : Nat} (g : Bool) {A N S : Nat} (h : Hr K M A N S) (e : Nat) (he : e < 18446744073709551616) (w : World) (hw : WT w) :
    Calls Tryz.prog 20 #[.int .u64 ((wordOf K M g.toNat A N S : Nat) : Int), .int .u64 (e : Nat)] w fun r w' => r = .returned (.bool (usedK K && !(whiteH K M e))) ∧ Below w.heap.size w w' := by
  have c1 := fun w hw => unpack_word g h w hw
  have c2 := used_any (K : Int)
  have c3 := fun w => white_any K M g A N S e he w
  clear h
  generalize wordOf K M g.toNat A N S = W at *
  generalize whiteH K M e = z at *
  generalize usedK K = u at *
  have bel := Below.refl w.heap.size w
  cases u
  all_goals
    go_enter Tryz.func20, Tryz.ntmps20
    go_wp2_with (first
      | (go_at_call 50; refine (c1 _ hw).mono ?_; rintro r wA ⟨rfl, b⟩; replace hw := hw.below b; replace bel := seq_below bel b; have hs := bel.size; have hp := hw.lt; clear b)
      | (go_at_call 51; refine (c2 _).mono ?_; rintro r w1 ⟨rfl, rfl⟩)
      | (go_at_call 52; refine (c3 _).mono ?_; rintro r wB ⟨rfl, b⟩; replace bel := new_below bel b; clear b))
    go_ret
  · exact ⟨rfl, bel.alloc bel.size _⟩
  · exact ⟨by cases z <;> rfl, bel⟩
set_option maxHeartbeats 1000000 in
theorem marked_bad {W : Nat} (hW : W < 18446744073709551616) (h : okW W = false) (e : Nat) (w : World) (hw : WT w) :
    Calls Tryz.prog 20 #[.int .u64 (W : Nat), .int .u64 (e : Nat)] w fun r w' => r = .returned (.bool false) ∧ Below w.heap.size w w' := by
  have c1 := fun w hw => unpack_bad hW h w hw
  clear h
  have bel := Below.refl w.heap.size w
  go_enter Tryz.func20, Tryz.ntmps20
  go_wp2_with (first | (go_at_call 50; refine (c1 _ hw).mono ?_; rintro r wA ⟨rfl, b⟩; replace hw := hw.below b; replace bel := seq_below bel b; have hs := bel.size; have hp := hw.lt; clear b))
  go_ret
  exact ⟨rfl, bel.alloc bel.size _⟩
set_option maxHeartbeats 2000000 in
theorem shaded_word {K M : Nat} (g : Bool) {A N S : Nat} (h : Hr K M A N S) (e : Nat) (he : e < 18446744073709551616) (hz : whiteH K M e = true) (w : World) (hw : WT w) :
    Calls Tryz.prog 23 #[.int .u64 ((wordOf K M g.toNat A N S : Nat) : Int), .int .u64 (e : Nat)] w fun r w' => r = .returned (.tuple #[.int .u64 ((wordOf K (blackN e) (true : Bool).toNat A N S : Nat) : Int), .bool true]) ∧ Below w.heap.size w w' := by
  have c1 := fun w hw => unpack_word g h w hw
  have c3 := fun w => white_any K M g A N S e he w
  rw [hz] at c3
  have c4 := tblack_nat e he
  have c5 := fun w hw => pack_word (K := K) (M := blackN e) true (A := A) (N := N) (S := S) ⟨h.k, blackN_lt e, h.a, h.n, h.s⟩ w hw
  clear h hz
  generalize wordOf K M g.toNat A N S = W at *
  generalize wordOf K (blackN e) (true : Bool).toNat A N S = V at *
  generalize blackN e = B at *
  have bel := Below.refl w.heap.size w
  go_enter Tryz.func23, Tryz.ntmps23
  go_wp2_with (first
    | (go_at_call 50; refine (c1 _ hw).mono ?_; rintro r wA ⟨rfl, b⟩; replace hw := hw.below b; replace bel := seq_below bel b; have hs := bel.size; have hp := hw.lt; clear b)
    | (go_at_call 52; refine (c3 _).mono ?_; rintro r wB ⟨rfl, b⟩; replace hw := (hw.new _).below b; replace bel := new_below bel b; have hh := (hd_new wA _ _ _ _ _ _).below b; obtain ⟨q0, q1, q2, q3, q4, q5⟩ := hh.cells; have qf := hh.free; clear b)
    | (go_at_call 54; refine (c4 _).mono ?_; rintro r w1 ⟨rfl, rfl⟩)
    | (go_at_call 53; refine (c5 _ ((hw.set hp _).set hp _)).mono ?_; rintro r wC ⟨rfl, b⟩; replace bel := seq_below ((bel.setCell hs _).setCell hs _) b; clear b))
  go_ret2
  exact ⟨rfl, bel⟩
set_option maxHeartbeats 2000000 in
theorem shaded_not {K M : Nat} (g : Bool) {A N S : Nat} (h : Hr K M A N S) (e : Nat) (he : e < 18446744073709551616) (hz : whiteH K M e = false) (w : World) (hw : WT w) :
    Calls Tryz.prog 23 #[.int .u64 ((wordOf K M g.toNat A N S : Nat) : Int), .int .u64 (e : Nat)] w fun r w' => r = .returned (.tuple #[.int .u64 ((wordOf K M g.toNat A N S : Nat) : Int), .bool false]) ∧ Below w.heap.size w w' := by
  have c1 := fun w hw => unpack_word g h w hw
  have c3 := fun w => white_any K M g A N S e he w
  rw [hz] at c3
  clear h hz
  generalize wordOf K M g.toNat A N S = W at *
  have bel := Below.refl w.heap.size w
  go_enter Tryz.func23, Tryz.ntmps23
  go_wp2_with (first
    | (go_at_call 50; refine (c1 _ hw).mono ?_; rintro r wA ⟨rfl, b⟩; replace hw := hw.below b; replace bel := seq_below bel b; have hs := bel.size; have hp := hw.lt; clear b)
    | (go_at_call 52; refine (c3 _).mono ?_; rintro r wB ⟨rfl, b⟩; replace bel := new_below bel b; clear b))
  go_ret2
  exact ⟨rfl, bel⟩
set_option maxHeartbeats 1000000 in
theorem shaded_bad {W : Nat} (hW : W < 18446744073709551616) (h : okW W = false) (e : Nat) (w : World) (hw : WT w) :
    Calls Tryz.prog 23 #[.int .u64 (W : Nat), .int .u64 (e : Nat)] w fun r w' => r = .returned (.tuple #[.int .u64 (W : Nat), .bool false]) ∧ Below w.heap.size w w' := by
  have c1 := fun w hw => unpack_bad hW h w hw
  clear h
  have bel := Below.refl w.heap.size w
  go_enter Tryz.func23, Tryz.ntmps23
  go_wp2_with (first | (go_at_call 50; refine (c1 _ hw).mono ?_; rintro r wA ⟨rfl, b⟩; replace hw := hw.below b; replace bel := seq_below bel b; have hs := bel.size; have hp := hw.lt; clear b))
  go_ret2
  exact ⟨rfl, bel.alloc bel.size _⟩
set_option maxHeartbeats 1000000 in
theorem blackened_gray {K M : Nat} {A N S : Nat} (h : Hr K M A N S) (w : World) (hw : WT w) :
    Calls Tryz.prog 21 #[.int .u64 ((wordOf K M (true : Bool).toNat A N S : Nat) : Int)] w fun r w' => r = .returned (.tuple #[.int .u64 ((wordOf K M (false : Bool).toNat A N S : Nat) : Int), .bool true]) ∧ Below w.heap.size w w' := by
  have c1 := fun w hw => unpack_word true h w hw
  have c5 := fun w hw => pack_word false h w hw
  clear h
  generalize wordOf K M (true : Bool).toNat A N S = W at *
  generalize wordOf K M (false : Bool).toNat A N S = V at *
  have bel := Below.refl w.heap.size w
  go_enter Tryz.func21, Tryz.ntmps21
  go_wp2_with (first
    | (go_at_call 50; refine (c1 _ hw).mono ?_; rintro r wA ⟨rfl, b⟩; replace hw := hw.below b; replace bel := seq_below bel b; have hs := bel.size; have hp := hw.lt; clear b)
    | (go_at_call 53; refine (c5 _ (hw.new _)).mono ?_; rintro r wC ⟨rfl, b⟩; replace bel := new_below bel b; clear b))
  go_ret2
  exact ⟨rfl, bel⟩
set_option maxHeartbeats 1000000 in
theorem blackened_not {K M : Nat} {A N S : Nat} (h : Hr K M A N S) (w : World) (hw : WT w) :
    Calls Tryz.prog 21 #[.int .u64 ((wordOf K M (false : Bool).toNat A N S : Nat) : Int)] w fun r w' => r = .returned (.tuple #[.int .u64 ((wordOf K M (false : Bool).toNat A N S : Nat) : Int), .bool false]) ∧ Below w.heap.size w w' := by
  have c1 := fun w hw => unpack_word false h w hw
  clear h
  generalize wordOf K M (false : Bool).toNat A N S = W at *
  have bel := Below.refl w.heap.size w
  go_enter Tryz.func21, Tryz.ntmps21
  go_wp2_with (first | (go_at_call 50; refine (c1 _ hw).mono ?_; rintro r wA ⟨rfl, b⟩; replace hw := hw.below b; replace bel := seq_below bel b; have hs := bel.size; have hp := hw.lt; clear b))
  go_ret2
  exact ⟨rfl, bel.alloc bel.size _⟩
set_option maxHeartbeats 1000000 in
theorem blackened_bad {W : Nat} (hW : W < 18446744073709551616) (h : okW W = false) (w : World) (hw : WT w) :
    Calls Tryz.prog 21 #[.int .u64 (W : Nat)] w fun r w' => r = .returned (.tuple #[.int .u64 (W : Nat), .bool false]) ∧ Below w.heap.size w w' := by
  have c1 := fun w hw => unpack_bad hW h w hw
  clear h
  have bel := Below.refl w.heap.size w
  go_enter Tryz.func21, Tryz.ntmps21
  go_wp2_with (first | (go_at_call 50; refine (c1 _ hw).mono ?_; rintro r wA ⟨rfl, b⟩; replace hw := hw.below b; replace bel := seq_below bel b; have hs := bel.size; have hp := hw.lt; clear b))
  go_ret2
  exact ⟨rfl, bel.alloc bel.size _⟩
end Go.Proofs.YtcioomopgdhlmaaGreatDoor.Hh
namespace Go.Proofs.YtcioomopgdhlmaaGreatDoor.Mm
open Go.RowKit
set_option maxHeartbeats 400000 in
theorem add_in {M G : Nat} {s : MS} {w : World} (h : IsMem w M G s) (i v : Nat) (hi : i < s.X.length) (ht : 0 ≤ s.t ∧ s.t < 4611686018427387904) :
    Calls Tryz.prog 94 #[.pointer (some ⟨M, 0, none⟩), .int .i64 i, .int .u64 v] w fun e w' => e = .returned (.int .u64 (sumW (s.X.getD i 0) v : Nat)) ∧ IsMem w' M G (touched s 4 i (sumW (s.X.getD i 0) v)) ∧ Only M G w w' := by
  have c1 := has_R h i true ((inR_iff s i).2 (by omega))
  have c2 := touch_any h 4 i (sumW (s.X.getD i 0) v) hi (sumW_lt _ _) ht
  have h0 := h.c0
  have hc := h.word i hi
  have hs := sumW_eq (s.X.getD i 0) v
  clear h
  generalize hX : s.X.getD i 0 = old at *
  generalize hL : s.X.length = n at *
  clear hX hL
  go_enter Tryz.func94, Tryz.ntmps94
  go_wp2_with (first
    | (go_at_call 83; refine c1.mono ?_; rintro e w' ⟨rfl, rfl⟩)
    | (go_at_call 84; refine c2.mono ?_; rintro e w' ⟨rfl, hm, ho⟩))
  go_ret
  exact ⟨rfl, by assumption, by assumption⟩
end Go.Proofs.YtcioomopgdhlmaaGreatDoor.Mm
namespace Go.Proofs.YtcioomopgdhlmaaGreatDoor
open Go.RowKit
open Mm (IsMem MS touched Only IsWords)
open Hh (WT okW whiteH wordOf Hr blackN usedK)
theorem okW_M {W : Nat} (hW : W < 18446744073709551616) (h : okW W = true) : ∃ K M g A N S, Hr K M A N S ∧ W = wordOf K M (g : Bool).toNat A N S ∧ W % 8 = K ∧ W / 8 % 2 = M ∧ W / 16 % 2 = g.toNat := by
  obtain ⟨K, M, g, A, N, S, h1, h2⟩ := Hh.okW_parts hW h
  obtain ⟨p0, p1, p2, _⟩ := Hh.word_parts g h1
  rw [← h2] at p0 p1 p2
  exact ⟨K, M, g, A, N, S, h1, h2, p0, p1, p2⟩
/-- Shaded, of any word. -/
theorem shaded_any {W : Nat} (hW : W < 18446744073709551616) (e : Nat) (he : e < 18446744073709551616) (w : World) (hw : WT w) :
    Calls Tryz.prog 23 #[.int .u64 (W : Nat), .int .u64 (e : Nat)] w fun r w' => r = .returned (.tuple #[.int .u64 (((if canS W e then shN W e else W) : Nat) : Int), .bool (canS W e)]) ∧ Below w.heap.size w w' := by
  unfold canS
  cases hok : okW W
  · have := Hh.shaded_bad hW hok e w hw
    exact this
  · obtain ⟨K, M, g, A, N, S, h1, rfl, p0, p1, p2⟩ := okW_M hW hok
    rw [p0, p1]
    cases hz : whiteH (K : Int) (M : Int) e
    · exact Hh.shaded_not g h1 e he hz w hw
    · have c := Hh.shaded_word g h1 e he hz w hw
      have e2 : wordOf K (blackN e) (true : Bool).toNat A N S = shN (wordOf K M g.toNat A N S) e := by
        unfold shN
        rw [p1, p2]
        have hm := h1.m
        have hg := Hh.bool_lt g
        unfold wordOf
        simp
        omega
      rw [e2] at c
      exact c
/-- What is shaded is a header, gray, and not to be shaded again in that epoch. -/
theorem sh_facts {W : Nat} (hW : W < 18446744073709551616) {e : Nat} (h : canS W e = true) : shN W e < 18446744073709551616 ∧ okW (shN W e) = true ∧ canS (shN W e) e = false ∧ grayW (shN W e) = true ∧ shN W e ≠ W := by
  unfold canS at h
  rw [Bool.and_eq_true] at h
  obtain ⟨hok, hz⟩ := h
  obtain ⟨K, M, g, A, N, S, h1, rfl, p0, p1, p2⟩ := okW_M hW hok
  rw [p0, p1] at hz
  have hb := Hh.blackN_lt e
  have h2 : Hr K (blackN e) A N S := ⟨h1.k, hb, h1.a, h1.n, h1.s⟩
  have e2 : wordOf K (blackN e) (true : Bool).toNat A N S = shN (wordOf K M g.toNat A N S) e := by
    unfold shN
    rw [p1, p2]
    have hm := h1.m
    have hg := Hh.bool_lt g
    unfold wordOf
    simp
    omega
  obtain ⟨q0, q1, q2, _, _, _, _, q7⟩ := Hh.word_parts true h2
  have hok2 := Hh.okW_word true h2
  rw [e2] at q0 q1 q2 q7 hok2
  have hne : (M : Int) ≠ Hh.blackOf e := by
    unfold whiteH at hz
    simp only [Bool.and_eq_true, decide_eq_true_eq] at hz
    exact hz.2
  have hnw : whiteH (K : Int) ((blackN e : Nat) : Int) e = false := by
    unfold whiteH
    rw [Hh.black_nat]
    simp
  refine ⟨q7, hok2, ?_, ?_, ?_⟩
  · unfold canS
    rw [q0, q1, hnw, Bool.and_false]
  · unfold grayW
    rw [hok2, q2]
    rfl
  · intro x
    rw [x, p1] at q1
    rw [Hh.black_nat] at hne
    omega
end Go.Proofs.YtcioomopgdhlmaaGreatDoor
