/- Layer 16: OpSelf, OpCalls. -/
import Derived.Test.YtfllkacebhcbdaaO4
namespace Go.Proofs.Ytfllkacebhcbdaa
open Go.RowKit

set_option maxRecDepth 100000 in
set_option maxHeartbeats 2000000 in
theorem self_law {w : World} {ad : Option Addr} {T : List (List Nat)} {len : Nat} (cap : Nat) (hl : len = T.length) (hT : RdT w ad T) (hb : len < 9223372036854775808) (of self other : Int) :
    Calls Try.prog 7 #[.int .i64 of, .int .i64 self, .int .i64 other, .slice ad len cap] w fun r w' => r = .returned (.bool true) ∧ Below w.heap.size w w' := by
  have cA := awake16
  by_cases hs : self < 0
  · clear hl hT hb
    go_enter Try.func7, Try.ntmps7
    go_wp2_with (go_at_call 11; with_reducible refine (cA _).mono ?_; rintro r w5 ⟨rfl, b⟩)
    go_ret
    exact ⟨rfl, b⟩
  · have e : valF of (-1) 0 self T = valF of self 0 other T := by
      have w1 : whoF (-1) self = self := by unfold whoF; rw [if_pos (by decide)]
      have w2 : whoF self other = self := by unfold whoF; rw [if_neg hs]
      unfold valF
      rw [w1, w2]
    have C1 : Calls Try.prog 9 #[.agg #[.int .i64 of, .int .i64 (-1), .int .u64 0], .int .i64 self, .slice ad len cap] w fun r w' => r = .returned (.int .u64 (valF of (-1) 0 self T : Nat)) ∧ Below w.heap.size w w' := value_any cap hl hT hb of (-1) 0 self
    have C2 : ∀ wr, Below w.heap.size w wr → Calls Try.prog 9 #[.agg #[.int .i64 of, .int .i64 self, .int .u64 0], .int .i64 other, .slice ad len cap] wr fun r w' => r = .returned (.int .u64 (valF of self 0 other T : Nat)) ∧ Below wr.heap.size wr w' := fun wr b => value_any cap hl (hT.below b) hb of self 0 other
    rw [e] at C1
    replace C2 := hid1 C2
    clear e hl hT hb
    generalize valF of self 0 other T = fz at *
    go_enter Try.func7, Try.ntmps7
    go_upto_region 4 with (go_at_call 9; with_reducible refine C1.mono ?_; rintro r w3 ⟨rfl, b⟩)
    clear C1
    go_wp2_with (first
      | (go_at_call 9; with_reducible refine (C2.out _ b).mono ?_; rintro r w4 ⟨rfl, b2⟩; replace b := seq_below b b2)
      | (go_at_call 11; with_reducible refine (cA _).mono ?_; rintro r w5 ⟨rfl, b3⟩; replace b := seq_below b b3))
    go_ret
    exact ⟨rfl, b⟩
set_option maxRecDepth 100000 in
set_option maxHeartbeats 8000000 in
theorem calls_law {w : World} {ad : Option Addr} {T : List (List Nat)} {len : Nat} (cap : Nat) (hl : len = T.length) (hT : RdT w ad T) (hb : len < 9223372036854775808) (kd n o1 c1 o2 c2 o3 c3 : Int) (r1 r2 r3 : Nat) (self : Int) :
    Calls Try.prog 4 #[.agg #[.int .i64 kd, .int .i64 n, .int .i64 o1, .int .i64 c1, .int .u64 (r1 : Nat), .int .i64 o2, .int .i64 c2, .int .u64 (r2 : Nat), .int .i64 o3, .int .i64 c3, .int .u64 (r3 : Nat)], .int .i64 self, .slice ad len cap] w fun r w' => r = .returned (.bool true) ∧ Below w.heap.size w w' := by
  have VH := (fun (wr : World) (b : Below w.heap.size w wr) => rvalue_any cap hl (hT.below b) hb o1 c1 r1 self)
  have VX := (fun (wr : World) (b : Below w.heap.size w wr) => rvalue_any cap hl (hT.below b) hb o2 c2 r2 self)
  have VY := (fun (wr : World) (b : Below w.heap.size w wr) => rvalue_any cap hl (hT.below b) hb o3 c3 r3 self)
  have CL := (fun (wr : World) (b : Below w.heap.size w wr) => call_any cap hl (hT.below b) hb kd n o1 c1 o2 c2 o3 c3 r1 r2 r3 self)
  generalize valF o1 c1 r1 self T = vh at *
  generalize valF o2 c2 r2 self T = vx at *
  generalize valF o3 c3 r3 self T = vy at *
  have vH := hid1 VH
  have vX := hid1 VX
  have vY := hid1 VY
  have cL := hid1 CL
  clear VH VX VY CL hl hT hb
  have hO := new_obj w (.cells #[.int .i64 kd, .int .i64 n, .int .i64 o1, .int .i64 c1, .int .u64 (r1 : Nat), .int .i64 o2, .int .i64 c2, .int .u64 (r2 : Nat), .int .i64 o3, .int .i64 c3, .int .u64 (r3 : Nat)] 30)
  have b1 := alloc_below w (.cells #[.int .i64 kd, .int .i64 n, .int .i64 o1, .int .i64 c1, .int .u64 (r1 : Nat), .int .i64 o2, .int .i64 c2, .int .u64 (r2 : Nat), .int .i64 o3, .int .i64 c3, .int .u64 (r3 : Nat)] 30)
  have e1 : (w.alloc (.cells #[.int .i64 kd, .int .i64 n, .int .i64 o1, .int .i64 c1, .int .u64 (r1 : Nat), .int .i64 o2, .int .i64 c2, .int .u64 (r2 : Nat), .int .i64 o3, .int .i64 c3, .int .u64 (r3 : Nat)] 30)).heap.size = w.heap.size + 1 := by simp
  generalize hw1 : w.alloc (.cells #[.int .i64 kd, .int .i64 n, .int .i64 o1, .int .i64 c1, .int .u64 (r1 : Nat), .int .i64 o2, .int .i64 c2, .int .u64 (r2 : Nat), .int .i64 o3, .int .i64 c3, .int .u64 (r3 : Nat)] 30) = w1 at hO b1 e1
  have hC := new_obj w1 (.cells #[.int .i64 kd, .int .i64 0, .int .u64 ((0 : Nat) : Int), .int .u64 ((0 : Nat) : Int), .int .u64 ((0 : Nat) : Int)] 32)
  have b3 := alloc_below w1 (.cells #[.int .i64 kd, .int .i64 0, .int .u64 ((0 : Nat) : Int), .int .u64 ((0 : Nat) : Int), .int .u64 ((0 : Nat) : Int)] 32)
  replace hO := (b3.block _ (lt_of_block hO)).trans hO
  have bel := seq_below b1 b3
  clear b1 b3
  rw [e1] at hC
  obtain ⟨bO, hbO⟩ : ∃ b, w.heap.size = b := ⟨_, rfl⟩
  replace hw1 := hid1 hw1
  clear e1
  go_enter Try.func4, Try.ntmps4
  go_upto_region 2 with fail
  rw [hw1.out]
  generalize World.alloc _ _ = w6 at *
  rw [hbO] at hO hC
  have hbO2 := hid1 hbO
  have hbC : Hid (w.heap.size ≤ bO + 1) := hid1 (by omega)
  have hOC : Hid (bO ≠ bO + 1) := hid1 (by omega)
  clear hbO hw1
  generalize bO + 1 = bC at *
  by_cases h1 : kd = 1
  · subst h1
    replace cL := hid1 (show ∀ wr, Below w.heap.size w wr → Calls Try.prog 12 #[.agg #[.int .i64 1, .int .i64 n, .int .i64 o1, .int .i64 c1, .int .u64 (r1 : Nat), .int .i64 o2, .int .i64 c2, .int .u64 (r2 : Nat), .int .i64 o3, .int .i64 c3, .int .u64 (r3 : Nat)], .int .i64 self, .slice ad len cap] wr fun r w' => r = .returned (.agg #[.int .i64 1, .int .i64 n, .int .u64 ((0 : Nat) : Nat), .int .u64 ((0 : Nat) : Nat), .int .u64 ((0 : Nat) : Nat)]) ∧ Below wr.heap.size wr w' from cL.out)
    obtain ⟨y0, y1, y2, y3, y4, y5, y6, y7, y8, y9, y10⟩ := op_cells hO
    obtain ⟨x0, x1, x2, x3, x4⟩ := cl_cells hC
    have zf := cells_free hC 1
    go_upto_region 4 with fail
    clear zf
    replace bel := bel.setCell (p := ⟨bC, 1, none⟩) hbC.out (.int .i64 n)
    replace hO := (heap_side (o := 1) hOC.out (.int .i64 n)).trans hO
    replace hC := heap_put (o := 1) hC (.int .i64 n)
    replace hC := hid1 hC
    generalize World.setCell _ _ _ = w6 at *
    replace hC := hC.out
    simp only [List.setIfInBounds_toArray, List.set_cons_zero, List.set_cons_succ] at hC
    clear y0 y1 y2 y3 y4 y5 y6 y7 y8 y9 y10 x0 x1 x2 x3 x4
    obtain ⟨y0, y1, y2, y3, y4, y5, y6, y7, y8, y9, y10⟩ := op_cells hO
    obtain ⟨x0, x1, x2, x3, x4⟩ := cl_cells hC
    go_upto_region 10 with fail
    clear y0 y1 y2 y3 y4 y5 y6 y7 y8 y9 y10 x0 x1 x2 x3 x4
    generalize hww : w6 = w7 at *
    have k1 := (fun (w' : World) (hw' : Below w7.heap.size w7 w') => (cL.out w' (seq_below bel hw')).mono fun _ _ ⟨he, hb⟩ => ⟨he, seq_below hw' hb⟩ : ∀ w', Below w7.heap.size w7 w' → Calls Try.prog 12 #[.agg #[.int .i64 1, .int .i64 n, .int .i64 o1, .int .i64 c1, .int .u64 (r1 : Nat), .int .i64 o2, .int .i64 c2, .int .u64 (r2 : Nat), .int .i64 o3, .int .i64 c3, .int .u64 (r3 : Nat)], .int .i64 self, .slice ad len cap] w' fun r w'' => r = .returned (.agg #[.int .i64 1, .int .i64 n, .int .u64 ((0 : Nat) : Nat), .int .u64 ((0 : Nat) : Nat), .int .u64 ((0 : Nat) : Nat)]) ∧ Below w7.heap.size w7 w'')
    have k3 := (fun (w' : World) (hw' : Below w7.heap.size w7 w') => (awake16 w').mono fun _ _ ⟨he, hb⟩ => ⟨he, seq_below hw' hb⟩ : ∀ w', Below w7.heap.size w7 w' → Calls Try.prog 11 #[] w' fun r w'' => r = .returned (.bool true) ∧ Below w7.heap.size w7 w'')
    have e2 := fun (w' : World) (hw' : Below w7.heap.size w7 w') => op_cells ((hw'.block _ (lt_of_block hO)).trans hO)
    have e3 := fun (w' : World) (hw' : Below w7.heap.size w7 w') => cl_cells ((hw'.block _ (lt_of_block hC)).trans hC)
    refine region_below (by kernel_rfl) (by kernel_rfl) ?_
    repeat (first | go_big_quiet_skip | (go_big_quiet_want; go_big_quiet_op; first | go_big_quiet_on | (refine ⟨_, fun _ _ => rfl, ?_⟩; go_big_quiet_on) | (with_reducible refine ⟨_, k1, ?_⟩; go_big_quiet_on) | (with_reducible refine ⟨_, k3, ?_⟩; go_big_quiet_on) | (refine ⟨.agg #[.int .i64 1, .int .i64 n, .int .i64 o1, .int .i64 c1, .int .u64 (r1 : Nat), .int .i64 o2, .int .i64 c2, .int .u64 (r2 : Nat), .int .i64 o3, .int .i64 c3, .int .u64 (r3 : Nat)], ?_, ?_⟩; (focus (intro w' hw'; obtain ⟨l0, l1, l2, l3, l4, l5, l6, l7, l8, l9, l10⟩ := e2 w' hw'; simp [l0, l1, l2, l3, l4, l5, l6, l7, l8, l9, l10, Result.andThen]; done)); go_big_quiet_on) | (refine ⟨.agg #[.int .i64 1, .int .i64 n, .int .u64 ((0 : Nat) : Nat), .int .u64 ((0 : Nat) : Nat), .int .u64 ((0 : Nat) : Nat)], ?_, ?_⟩; (focus (intro w' hw'; obtain ⟨l0, l1, l2, l3, l4⟩ := e3 w' hw'; simp [l0, l1, l2, l3, l4, Result.andThen]; done)); go_big_quiet_on) | (refine ⟨.bool true, ?_, ?_⟩; (focus (intro w' hw'; simp [go_sem, Result.andThen]; done)); go_big_quiet_on)))
    refine wpQuiet_nil ?_
    intro w8 hb8
    go_wp2
    go_ret
    exact ⟨rfl, seq_below bel hb8⟩
  by_cases h2 : kd = 2
  · subst h2
    replace cL := hid1 (show ∀ wr, Below w.heap.size w wr → Calls Try.prog 12 #[.agg #[.int .i64 2, .int .i64 n, .int .i64 o1, .int .i64 c1, .int .u64 (r1 : Nat), .int .i64 o2, .int .i64 c2, .int .u64 (r2 : Nat), .int .i64 o3, .int .i64 c3, .int .u64 (r3 : Nat)], .int .i64 self, .slice ad len cap] wr fun r w' => r = .returned (.agg #[.int .i64 2, .int .i64 n, .int .u64 (vh : Nat), .int .u64 ((0 : Nat) : Nat), .int .u64 ((0 : Nat) : Nat)]) ∧ Below wr.heap.size wr w' from cL.out)
    obtain ⟨y0, y1, y2, y3, y4, y5, y6, y7, y8, y9, y10⟩ := op_cells hO
    obtain ⟨x0, x1, x2, x3, x4⟩ := cl_cells hC
    have zf := cells_free hC 1
    go_upto_region 4 with fail
    clear zf
    replace bel := bel.setCell (p := ⟨bC, 1, none⟩) hbC.out (.int .i64 n)
    replace hO := (heap_side (o := 1) hOC.out (.int .i64 n)).trans hO
    replace hC := heap_put (o := 1) hC (.int .i64 n)
    replace hC := hid1 hC
    generalize World.setCell _ _ _ = w6 at *
    replace hC := hC.out
    simp only [List.setIfInBounds_toArray, List.set_cons_zero, List.set_cons_succ] at hC
    clear y0 y1 y2 y3 y4 y5 y6 y7 y8 y9 y10 x0 x1 x2 x3 x4
    obtain ⟨y0, y1, y2, y3, y4, y5, y6, y7, y8, y9, y10⟩ := op_cells hO
    obtain ⟨x0, x1, x2, x3, x4⟩ := cl_cells hC
    go_upto_region 6 with (go_at_call 10; with_reducible refine (vH.out _ bel).mono ?_; rintro r w5 ⟨rfl, b⟩; replace bel := seq_below bel b; replace hO := (b.block _ (lt_of_block hO)).trans hO; replace hC := (b.block _ (lt_of_block hC)).trans hC; clear b; clear y0 y1 y2 y3 y4 y5 y6 y7 y8 y9 y10 x0 x1 x2 x3 x4; obtain ⟨y0, y1, y2, y3, y4, y5, y6, y7, y8, y9, y10⟩ := op_cells hO; obtain ⟨x0, x1, x2, x3, x4⟩ := cl_cells hC; have zf := cells_free hC 2)
    clear zf
    replace bel := bel.setCell (p := ⟨bC, 2, none⟩) hbC.out (.int .u64 (vh : Nat))
    replace hO := (heap_side (o := 2) hOC.out (.int .u64 (vh : Nat))).trans hO
    replace hC := heap_put (o := 2) hC (.int .u64 (vh : Nat))
    replace hC := hid1 hC
    generalize World.setCell _ _ _ = w6 at *
    replace hC := hC.out
    simp only [List.setIfInBounds_toArray, List.set_cons_zero, List.set_cons_succ] at hC
    clear y0 y1 y2 y3 y4 y5 y6 y7 y8 y9 y10 x0 x1 x2 x3 x4
    obtain ⟨y0, y1, y2, y3, y4, y5, y6, y7, y8, y9, y10⟩ := op_cells hO
    obtain ⟨x0, x1, x2, x3, x4⟩ := cl_cells hC
    go_upto_region 10 with fail
    clear y0 y1 y2 y3 y4 y5 y6 y7 y8 y9 y10 x0 x1 x2 x3 x4
    generalize hww : w6 = w7 at *
    have k1 := (fun (w' : World) (hw' : Below w7.heap.size w7 w') => (cL.out w' (seq_below bel hw')).mono fun _ _ ⟨he, hb⟩ => ⟨he, seq_below hw' hb⟩ : ∀ w', Below w7.heap.size w7 w' → Calls Try.prog 12 #[.agg #[.int .i64 2, .int .i64 n, .int .i64 o1, .int .i64 c1, .int .u64 (r1 : Nat), .int .i64 o2, .int .i64 c2, .int .u64 (r2 : Nat), .int .i64 o3, .int .i64 c3, .int .u64 (r3 : Nat)], .int .i64 self, .slice ad len cap] w' fun r w'' => r = .returned (.agg #[.int .i64 2, .int .i64 n, .int .u64 (vh : Nat), .int .u64 ((0 : Nat) : Nat), .int .u64 ((0 : Nat) : Nat)]) ∧ Below w7.heap.size w7 w'')
    have k3 := (fun (w' : World) (hw' : Below w7.heap.size w7 w') => (awake16 w').mono fun _ _ ⟨he, hb⟩ => ⟨he, seq_below hw' hb⟩ : ∀ w', Below w7.heap.size w7 w' → Calls Try.prog 11 #[] w' fun r w'' => r = .returned (.bool true) ∧ Below w7.heap.size w7 w'')
    have e2 := fun (w' : World) (hw' : Below w7.heap.size w7 w') => op_cells ((hw'.block _ (lt_of_block hO)).trans hO)
    have e3 := fun (w' : World) (hw' : Below w7.heap.size w7 w') => cl_cells ((hw'.block _ (lt_of_block hC)).trans hC)
    refine region_below (by kernel_rfl) (by kernel_rfl) ?_
    repeat (first | go_big_quiet_skip | (go_big_quiet_want; go_big_quiet_op; first | go_big_quiet_on | (refine ⟨_, fun _ _ => rfl, ?_⟩; go_big_quiet_on) | (with_reducible refine ⟨_, k1, ?_⟩; go_big_quiet_on) | (with_reducible refine ⟨_, k3, ?_⟩; go_big_quiet_on) | (refine ⟨.agg #[.int .i64 2, .int .i64 n, .int .i64 o1, .int .i64 c1, .int .u64 (r1 : Nat), .int .i64 o2, .int .i64 c2, .int .u64 (r2 : Nat), .int .i64 o3, .int .i64 c3, .int .u64 (r3 : Nat)], ?_, ?_⟩; (focus (intro w' hw'; obtain ⟨l0, l1, l2, l3, l4, l5, l6, l7, l8, l9, l10⟩ := e2 w' hw'; simp [l0, l1, l2, l3, l4, l5, l6, l7, l8, l9, l10, Result.andThen]; done)); go_big_quiet_on) | (refine ⟨.agg #[.int .i64 2, .int .i64 n, .int .u64 (vh : Nat), .int .u64 ((0 : Nat) : Nat), .int .u64 ((0 : Nat) : Nat)], ?_, ?_⟩; (focus (intro w' hw'; obtain ⟨l0, l1, l2, l3, l4⟩ := e3 w' hw'; simp [l0, l1, l2, l3, l4, Result.andThen]; done)); go_big_quiet_on) | (refine ⟨.bool true, ?_, ?_⟩; (focus (intro w' hw'; simp [go_sem, Result.andThen]; done)); go_big_quiet_on)))
    refine wpQuiet_nil ?_
    intro w8 hb8
    go_wp2
    go_ret
    exact ⟨rfl, seq_below bel hb8⟩
  by_cases h3 : kd = 3
  · subst h3
    replace cL := hid1 (show ∀ wr, Below w.heap.size w wr → Calls Try.prog 12 #[.agg #[.int .i64 3, .int .i64 n, .int .i64 o1, .int .i64 c1, .int .u64 (r1 : Nat), .int .i64 o2, .int .i64 c2, .int .u64 (r2 : Nat), .int .i64 o3, .int .i64 c3, .int .u64 (r3 : Nat)], .int .i64 self, .slice ad len cap] wr fun r w' => r = .returned (.agg #[.int .i64 3, .int .i64 n, .int .u64 (vh : Nat), .int .u64 (vx : Nat), .int .u64 ((0 : Nat) : Nat)]) ∧ Below wr.heap.size wr w' from cL.out)
    obtain ⟨y0, y1, y2, y3, y4, y5, y6, y7, y8, y9, y10⟩ := op_cells hO
    obtain ⟨x0, x1, x2, x3, x4⟩ := cl_cells hC
    have zf := cells_free hC 1
    go_upto_region 4 with fail
    clear zf
    replace bel := bel.setCell (p := ⟨bC, 1, none⟩) hbC.out (.int .i64 n)
    replace hO := (heap_side (o := 1) hOC.out (.int .i64 n)).trans hO
    replace hC := heap_put (o := 1) hC (.int .i64 n)
    replace hC := hid1 hC
    generalize World.setCell _ _ _ = w6 at *
    replace hC := hC.out
    simp only [List.setIfInBounds_toArray, List.set_cons_zero, List.set_cons_succ] at hC
    clear y0 y1 y2 y3 y4 y5 y6 y7 y8 y9 y10 x0 x1 x2 x3 x4
    obtain ⟨y0, y1, y2, y3, y4, y5, y6, y7, y8, y9, y10⟩ := op_cells hO
    obtain ⟨x0, x1, x2, x3, x4⟩ := cl_cells hC
    go_upto_region 6 with (go_at_call 10; with_reducible refine (vH.out _ bel).mono ?_; rintro r w5 ⟨rfl, b⟩; replace bel := seq_below bel b; replace hO := (b.block _ (lt_of_block hO)).trans hO; replace hC := (b.block _ (lt_of_block hC)).trans hC; clear b; clear y0 y1 y2 y3 y4 y5 y6 y7 y8 y9 y10 x0 x1 x2 x3 x4; obtain ⟨y0, y1, y2, y3, y4, y5, y6, y7, y8, y9, y10⟩ := op_cells hO; obtain ⟨x0, x1, x2, x3, x4⟩ := cl_cells hC; have zf := cells_free hC 2)
    clear zf
    replace bel := bel.setCell (p := ⟨bC, 2, none⟩) hbC.out (.int .u64 (vh : Nat))
    replace hO := (heap_side (o := 2) hOC.out (.int .u64 (vh : Nat))).trans hO
    replace hC := heap_put (o := 2) hC (.int .u64 (vh : Nat))
    replace hC := hid1 hC
    generalize World.setCell _ _ _ = w6 at *
    replace hC := hC.out
    simp only [List.setIfInBounds_toArray, List.set_cons_zero, List.set_cons_succ] at hC
    clear y0 y1 y2 y3 y4 y5 y6 y7 y8 y9 y10 x0 x1 x2 x3 x4
    obtain ⟨y0, y1, y2, y3, y4, y5, y6, y7, y8, y9, y10⟩ := op_cells hO
    obtain ⟨x0, x1, x2, x3, x4⟩ := cl_cells hC
    go_upto_region 8 with (go_at_call 10; with_reducible refine (vX.out _ bel).mono ?_; rintro r w5 ⟨rfl, b⟩; replace bel := seq_below bel b; replace hO := (b.block _ (lt_of_block hO)).trans hO; replace hC := (b.block _ (lt_of_block hC)).trans hC; clear b; clear y0 y1 y2 y3 y4 y5 y6 y7 y8 y9 y10 x0 x1 x2 x3 x4; obtain ⟨y0, y1, y2, y3, y4, y5, y6, y7, y8, y9, y10⟩ := op_cells hO; obtain ⟨x0, x1, x2, x3, x4⟩ := cl_cells hC; have zf := cells_free hC 3)
    clear zf
    replace bel := bel.setCell (p := ⟨bC, 3, none⟩) hbC.out (.int .u64 (vx : Nat))
    replace hO := (heap_side (o := 3) hOC.out (.int .u64 (vx : Nat))).trans hO
    replace hC := heap_put (o := 3) hC (.int .u64 (vx : Nat))
    replace hC := hid1 hC
    generalize World.setCell _ _ _ = w6 at *
    replace hC := hC.out
    simp only [List.setIfInBounds_toArray, List.set_cons_zero, List.set_cons_succ] at hC
    clear y0 y1 y2 y3 y4 y5 y6 y7 y8 y9 y10 x0 x1 x2 x3 x4
    obtain ⟨y0, y1, y2, y3, y4, y5, y6, y7, y8, y9, y10⟩ := op_cells hO
    obtain ⟨x0, x1, x2, x3, x4⟩ := cl_cells hC
    go_upto_region 10 with fail
    clear y0 y1 y2 y3 y4 y5 y6 y7 y8 y9 y10 x0 x1 x2 x3 x4
    generalize hww : w6 = w7 at *
    have k1 := (fun (w' : World) (hw' : Below w7.heap.size w7 w') => (cL.out w' (seq_below bel hw')).mono fun _ _ ⟨he, hb⟩ => ⟨he, seq_below hw' hb⟩ : ∀ w', Below w7.heap.size w7 w' → Calls Try.prog 12 #[.agg #[.int .i64 3, .int .i64 n, .int .i64 o1, .int .i64 c1, .int .u64 (r1 : Nat), .int .i64 o2, .int .i64 c2, .int .u64 (r2 : Nat), .int .i64 o3, .int .i64 c3, .int .u64 (r3 : Nat)], .int .i64 self, .slice ad len cap] w' fun r w'' => r = .returned (.agg #[.int .i64 3, .int .i64 n, .int .u64 (vh : Nat), .int .u64 (vx : Nat), .int .u64 ((0 : Nat) : Nat)]) ∧ Below w7.heap.size w7 w'')
    have k3 := (fun (w' : World) (hw' : Below w7.heap.size w7 w') => (awake16 w').mono fun _ _ ⟨he, hb⟩ => ⟨he, seq_below hw' hb⟩ : ∀ w', Below w7.heap.size w7 w' → Calls Try.prog 11 #[] w' fun r w'' => r = .returned (.bool true) ∧ Below w7.heap.size w7 w'')
    have e2 := fun (w' : World) (hw' : Below w7.heap.size w7 w') => op_cells ((hw'.block _ (lt_of_block hO)).trans hO)
    have e3 := fun (w' : World) (hw' : Below w7.heap.size w7 w') => cl_cells ((hw'.block _ (lt_of_block hC)).trans hC)
    refine region_below (by kernel_rfl) (by kernel_rfl) ?_
    repeat (first | go_big_quiet_skip | (go_big_quiet_want; go_big_quiet_op; first | go_big_quiet_on | (refine ⟨_, fun _ _ => rfl, ?_⟩; go_big_quiet_on) | (with_reducible refine ⟨_, k1, ?_⟩; go_big_quiet_on) | (with_reducible refine ⟨_, k3, ?_⟩; go_big_quiet_on) | (refine ⟨.agg #[.int .i64 3, .int .i64 n, .int .i64 o1, .int .i64 c1, .int .u64 (r1 : Nat), .int .i64 o2, .int .i64 c2, .int .u64 (r2 : Nat), .int .i64 o3, .int .i64 c3, .int .u64 (r3 : Nat)], ?_, ?_⟩; (focus (intro w' hw'; obtain ⟨l0, l1, l2, l3, l4, l5, l6, l7, l8, l9, l10⟩ := e2 w' hw'; simp [l0, l1, l2, l3, l4, l5, l6, l7, l8, l9, l10, Result.andThen]; done)); go_big_quiet_on) | (refine ⟨.agg #[.int .i64 3, .int .i64 n, .int .u64 (vh : Nat), .int .u64 (vx : Nat), .int .u64 ((0 : Nat) : Nat)], ?_, ?_⟩; (focus (intro w' hw'; obtain ⟨l0, l1, l2, l3, l4⟩ := e3 w' hw'; simp [l0, l1, l2, l3, l4, Result.andThen]; done)); go_big_quiet_on) | (refine ⟨.bool true, ?_, ?_⟩; (focus (intro w' hw'; simp [go_sem, Result.andThen]; done)); go_big_quiet_on)))
    refine wpQuiet_nil ?_
    intro w8 hb8
    go_wp2
    go_ret
    exact ⟨rfl, seq_below bel hb8⟩
  by_cases h4 : kd = 4
  · subst h4
    replace cL := hid1 (show ∀ wr, Below w.heap.size w wr → Calls Try.prog 12 #[.agg #[.int .i64 4, .int .i64 n, .int .i64 o1, .int .i64 c1, .int .u64 (r1 : Nat), .int .i64 o2, .int .i64 c2, .int .u64 (r2 : Nat), .int .i64 o3, .int .i64 c3, .int .u64 (r3 : Nat)], .int .i64 self, .slice ad len cap] wr fun r w' => r = .returned (.agg #[.int .i64 4, .int .i64 n, .int .u64 (vh : Nat), .int .u64 ((0 : Nat) : Nat), .int .u64 ((0 : Nat) : Nat)]) ∧ Below wr.heap.size wr w' from cL.out)
    obtain ⟨y0, y1, y2, y3, y4, y5, y6, y7, y8, y9, y10⟩ := op_cells hO
    obtain ⟨x0, x1, x2, x3, x4⟩ := cl_cells hC
    have zf := cells_free hC 1
    go_upto_region 4 with fail
    clear zf
    replace bel := bel.setCell (p := ⟨bC, 1, none⟩) hbC.out (.int .i64 n)
    replace hO := (heap_side (o := 1) hOC.out (.int .i64 n)).trans hO
    replace hC := heap_put (o := 1) hC (.int .i64 n)
    replace hC := hid1 hC
    generalize World.setCell _ _ _ = w6 at *
    replace hC := hC.out
    simp only [List.setIfInBounds_toArray, List.set_cons_zero, List.set_cons_succ] at hC
    clear y0 y1 y2 y3 y4 y5 y6 y7 y8 y9 y10 x0 x1 x2 x3 x4
    obtain ⟨y0, y1, y2, y3, y4, y5, y6, y7, y8, y9, y10⟩ := op_cells hO
    obtain ⟨x0, x1, x2, x3, x4⟩ := cl_cells hC
    go_upto_region 6 with (go_at_call 10; with_reducible refine (vH.out _ bel).mono ?_; rintro r w5 ⟨rfl, b⟩; replace bel := seq_below bel b; replace hO := (b.block _ (lt_of_block hO)).trans hO; replace hC := (b.block _ (lt_of_block hC)).trans hC; clear b; clear y0 y1 y2 y3 y4 y5 y6 y7 y8 y9 y10 x0 x1 x2 x3 x4; obtain ⟨y0, y1, y2, y3, y4, y5, y6, y7, y8, y9, y10⟩ := op_cells hO; obtain ⟨x0, x1, x2, x3, x4⟩ := cl_cells hC; have zf := cells_free hC 2)
    clear zf
    replace bel := bel.setCell (p := ⟨bC, 2, none⟩) hbC.out (.int .u64 (vh : Nat))
    replace hO := (heap_side (o := 2) hOC.out (.int .u64 (vh : Nat))).trans hO
    replace hC := heap_put (o := 2) hC (.int .u64 (vh : Nat))
    replace hC := hid1 hC
    generalize World.setCell _ _ _ = w6 at *
    replace hC := hC.out
    simp only [List.setIfInBounds_toArray, List.set_cons_zero, List.set_cons_succ] at hC
    clear y0 y1 y2 y3 y4 y5 y6 y7 y8 y9 y10 x0 x1 x2 x3 x4
    obtain ⟨y0, y1, y2, y3, y4, y5, y6, y7, y8, y9, y10⟩ := op_cells hO
    obtain ⟨x0, x1, x2, x3, x4⟩ := cl_cells hC
    go_upto_region 10 with fail
    clear y0 y1 y2 y3 y4 y5 y6 y7 y8 y9 y10 x0 x1 x2 x3 x4
    generalize hww : w6 = w7 at *
    have k1 := (fun (w' : World) (hw' : Below w7.heap.size w7 w') => (cL.out w' (seq_below bel hw')).mono fun _ _ ⟨he, hb⟩ => ⟨he, seq_below hw' hb⟩ : ∀ w', Below w7.heap.size w7 w' → Calls Try.prog 12 #[.agg #[.int .i64 4, .int .i64 n, .int .i64 o1, .int .i64 c1, .int .u64 (r1 : Nat), .int .i64 o2, .int .i64 c2, .int .u64 (r2 : Nat), .int .i64 o3, .int .i64 c3, .int .u64 (r3 : Nat)], .int .i64 self, .slice ad len cap] w' fun r w'' => r = .returned (.agg #[.int .i64 4, .int .i64 n, .int .u64 (vh : Nat), .int .u64 ((0 : Nat) : Nat), .int .u64 ((0 : Nat) : Nat)]) ∧ Below w7.heap.size w7 w'')
    have k3 := (fun (w' : World) (hw' : Below w7.heap.size w7 w') => (awake16 w').mono fun _ _ ⟨he, hb⟩ => ⟨he, seq_below hw' hb⟩ : ∀ w', Below w7.heap.size w7 w' → Calls Try.prog 11 #[] w' fun r w'' => r = .returned (.bool true) ∧ Below w7.heap.size w7 w'')
    have e2 := fun (w' : World) (hw' : Below w7.heap.size w7 w') => op_cells ((hw'.block _ (lt_of_block hO)).trans hO)
    have e3 := fun (w' : World) (hw' : Below w7.heap.size w7 w') => cl_cells ((hw'.block _ (lt_of_block hC)).trans hC)
    refine region_below (by kernel_rfl) (by kernel_rfl) ?_
    repeat (first | go_big_quiet_skip | (go_big_quiet_want; go_big_quiet_op; first | go_big_quiet_on | (refine ⟨_, fun _ _ => rfl, ?_⟩; go_big_quiet_on) | (with_reducible refine ⟨_, k1, ?_⟩; go_big_quiet_on) | (with_reducible refine ⟨_, k3, ?_⟩; go_big_quiet_on) | (refine ⟨.agg #[.int .i64 4, .int .i64 n, .int .i64 o1, .int .i64 c1, .int .u64 (r1 : Nat), .int .i64 o2, .int .i64 c2, .int .u64 (r2 : Nat), .int .i64 o3, .int .i64 c3, .int .u64 (r3 : Nat)], ?_, ?_⟩; (focus (intro w' hw'; obtain ⟨l0, l1, l2, l3, l4, l5, l6, l7, l8, l9, l10⟩ := e2 w' hw'; simp [l0, l1, l2, l3, l4, l5, l6, l7, l8, l9, l10, Result.andThen]; done)); go_big_quiet_on) | (refine ⟨.agg #[.int .i64 4, .int .i64 n, .int .u64 (vh : Nat), .int .u64 ((0 : Nat) : Nat), .int .u64 ((0 : Nat) : Nat)], ?_, ?_⟩; (focus (intro w' hw'; obtain ⟨l0, l1, l2, l3, l4⟩ := e3 w' hw'; simp [l0, l1, l2, l3, l4, Result.andThen]; done)); go_big_quiet_on) | (refine ⟨.bool true, ?_, ?_⟩; (focus (intro w' hw'; simp [go_sem, Result.andThen]; done)); go_big_quiet_on)))
    refine wpQuiet_nil ?_
    intro w8 hb8
    go_wp2
    go_ret
    exact ⟨rfl, seq_below bel hb8⟩
  by_cases h5 : kd = 5
  · subst h5
    replace cL := hid1 (show ∀ wr, Below w.heap.size w wr → Calls Try.prog 12 #[.agg #[.int .i64 5, .int .i64 n, .int .i64 o1, .int .i64 c1, .int .u64 (r1 : Nat), .int .i64 o2, .int .i64 c2, .int .u64 (r2 : Nat), .int .i64 o3, .int .i64 c3, .int .u64 (r3 : Nat)], .int .i64 self, .slice ad len cap] wr fun r w' => r = .returned (.agg #[.int .i64 5, .int .i64 n, .int .u64 (vh : Nat), .int .u64 (vx : Nat), .int .u64 (vy : Nat)]) ∧ Below wr.heap.size wr w' from cL.out)
    obtain ⟨y0, y1, y2, y3, y4, y5, y6, y7, y8, y9, y10⟩ := op_cells hO
    obtain ⟨x0, x1, x2, x3, x4⟩ := cl_cells hC
    have zf := cells_free hC 1
    go_upto_region 4 with fail
    clear zf
    replace bel := bel.setCell (p := ⟨bC, 1, none⟩) hbC.out (.int .i64 n)
    replace hO := (heap_side (o := 1) hOC.out (.int .i64 n)).trans hO
    replace hC := heap_put (o := 1) hC (.int .i64 n)
    replace hC := hid1 hC
    generalize World.setCell _ _ _ = w6 at *
    replace hC := hC.out
    simp only [List.setIfInBounds_toArray, List.set_cons_zero, List.set_cons_succ] at hC
    clear y0 y1 y2 y3 y4 y5 y6 y7 y8 y9 y10 x0 x1 x2 x3 x4
    obtain ⟨y0, y1, y2, y3, y4, y5, y6, y7, y8, y9, y10⟩ := op_cells hO
    obtain ⟨x0, x1, x2, x3, x4⟩ := cl_cells hC
    go_upto_region 6 with (go_at_call 10; with_reducible refine (vH.out _ bel).mono ?_; rintro r w5 ⟨rfl, b⟩; replace bel := seq_below bel b; replace hO := (b.block _ (lt_of_block hO)).trans hO; replace hC := (b.block _ (lt_of_block hC)).trans hC; clear b; clear y0 y1 y2 y3 y4 y5 y6 y7 y8 y9 y10 x0 x1 x2 x3 x4; obtain ⟨y0, y1, y2, y3, y4, y5, y6, y7, y8, y9, y10⟩ := op_cells hO; obtain ⟨x0, x1, x2, x3, x4⟩ := cl_cells hC; have zf := cells_free hC 2)
    clear zf
    replace bel := bel.setCell (p := ⟨bC, 2, none⟩) hbC.out (.int .u64 (vh : Nat))
    replace hO := (heap_side (o := 2) hOC.out (.int .u64 (vh : Nat))).trans hO
    replace hC := heap_put (o := 2) hC (.int .u64 (vh : Nat))
    replace hC := hid1 hC
    generalize World.setCell _ _ _ = w6 at *
    replace hC := hC.out
    simp only [List.setIfInBounds_toArray, List.set_cons_zero, List.set_cons_succ] at hC
    clear y0 y1 y2 y3 y4 y5 y6 y7 y8 y9 y10 x0 x1 x2 x3 x4
    obtain ⟨y0, y1, y2, y3, y4, y5, y6, y7, y8, y9, y10⟩ := op_cells hO
    obtain ⟨x0, x1, x2, x3, x4⟩ := cl_cells hC
    go_upto_region 8 with (go_at_call 10; with_reducible refine (vX.out _ bel).mono ?_; rintro r w5 ⟨rfl, b⟩; replace bel := seq_below bel b; replace hO := (b.block _ (lt_of_block hO)).trans hO; replace hC := (b.block _ (lt_of_block hC)).trans hC; clear b; clear y0 y1 y2 y3 y4 y5 y6 y7 y8 y9 y10 x0 x1 x2 x3 x4; obtain ⟨y0, y1, y2, y3, y4, y5, y6, y7, y8, y9, y10⟩ := op_cells hO; obtain ⟨x0, x1, x2, x3, x4⟩ := cl_cells hC; have zf := cells_free hC 3)
    clear zf
    replace bel := bel.setCell (p := ⟨bC, 3, none⟩) hbC.out (.int .u64 (vx : Nat))
    replace hO := (heap_side (o := 3) hOC.out (.int .u64 (vx : Nat))).trans hO
    replace hC := heap_put (o := 3) hC (.int .u64 (vx : Nat))
    replace hC := hid1 hC
    generalize World.setCell _ _ _ = w6 at *
    replace hC := hC.out
    simp only [List.setIfInBounds_toArray, List.set_cons_zero, List.set_cons_succ] at hC
    clear y0 y1 y2 y3 y4 y5 y6 y7 y8 y9 y10 x0 x1 x2 x3 x4
    obtain ⟨y0, y1, y2, y3, y4, y5, y6, y7, y8, y9, y10⟩ := op_cells hO
    obtain ⟨x0, x1, x2, x3, x4⟩ := cl_cells hC
    go_upto_region 10 with (go_at_call 10; with_reducible refine (vY.out _ bel).mono ?_; rintro r w5 ⟨rfl, b⟩; replace bel := seq_below bel b; replace hO := (b.block _ (lt_of_block hO)).trans hO; replace hC := (b.block _ (lt_of_block hC)).trans hC; clear b; clear y0 y1 y2 y3 y4 y5 y6 y7 y8 y9 y10 x0 x1 x2 x3 x4; obtain ⟨y0, y1, y2, y3, y4, y5, y6, y7, y8, y9, y10⟩ := op_cells hO; obtain ⟨x0, x1, x2, x3, x4⟩ := cl_cells hC; have zf := cells_free hC 4)
    clear zf
    replace bel := bel.setCell (p := ⟨bC, 4, none⟩) hbC.out (.int .u64 (vy : Nat))
    replace hO := (heap_side (o := 4) hOC.out (.int .u64 (vy : Nat))).trans hO
    replace hC := heap_put (o := 4) hC (.int .u64 (vy : Nat))
    replace hC := hid1 hC
    generalize World.setCell _ _ _ = w6 at *
    replace hC := hC.out
    simp only [List.setIfInBounds_toArray, List.set_cons_zero, List.set_cons_succ] at hC
    clear y0 y1 y2 y3 y4 y5 y6 y7 y8 y9 y10 x0 x1 x2 x3 x4
    obtain ⟨y0, y1, y2, y3, y4, y5, y6, y7, y8, y9, y10⟩ := op_cells hO
    obtain ⟨x0, x1, x2, x3, x4⟩ := cl_cells hC
    clear y0 y1 y2 y3 y4 y5 y6 y7 y8 y9 y10 x0 x1 x2 x3 x4
    generalize hww : w6 = w7 at *
    have k1 := (fun (w' : World) (hw' : Below w7.heap.size w7 w') => (cL.out w' (seq_below bel hw')).mono fun _ _ ⟨he, hb⟩ => ⟨he, seq_below hw' hb⟩ : ∀ w', Below w7.heap.size w7 w' → Calls Try.prog 12 #[.agg #[.int .i64 5, .int .i64 n, .int .i64 o1, .int .i64 c1, .int .u64 (r1 : Nat), .int .i64 o2, .int .i64 c2, .int .u64 (r2 : Nat), .int .i64 o3, .int .i64 c3, .int .u64 (r3 : Nat)], .int .i64 self, .slice ad len cap] w' fun r w'' => r = .returned (.agg #[.int .i64 5, .int .i64 n, .int .u64 (vh : Nat), .int .u64 (vx : Nat), .int .u64 (vy : Nat)]) ∧ Below w7.heap.size w7 w'')
    have k3 := (fun (w' : World) (hw' : Below w7.heap.size w7 w') => (awake16 w').mono fun _ _ ⟨he, hb⟩ => ⟨he, seq_below hw' hb⟩ : ∀ w', Below w7.heap.size w7 w' → Calls Try.prog 11 #[] w' fun r w'' => r = .returned (.bool true) ∧ Below w7.heap.size w7 w'')
    have e2 := fun (w' : World) (hw' : Below w7.heap.size w7 w') => op_cells ((hw'.block _ (lt_of_block hO)).trans hO)
    have e3 := fun (w' : World) (hw' : Below w7.heap.size w7 w') => cl_cells ((hw'.block _ (lt_of_block hC)).trans hC)
    refine region_below (by kernel_rfl) (by kernel_rfl) ?_
    repeat (first | go_big_quiet_skip | (go_big_quiet_want; go_big_quiet_op; first | go_big_quiet_on | (refine ⟨_, fun _ _ => rfl, ?_⟩; go_big_quiet_on) | (with_reducible refine ⟨_, k1, ?_⟩; go_big_quiet_on) | (with_reducible refine ⟨_, k3, ?_⟩; go_big_quiet_on) | (refine ⟨.agg #[.int .i64 5, .int .i64 n, .int .i64 o1, .int .i64 c1, .int .u64 (r1 : Nat), .int .i64 o2, .int .i64 c2, .int .u64 (r2 : Nat), .int .i64 o3, .int .i64 c3, .int .u64 (r3 : Nat)], ?_, ?_⟩; (focus (intro w' hw'; obtain ⟨l0, l1, l2, l3, l4, l5, l6, l7, l8, l9, l10⟩ := e2 w' hw'; simp [l0, l1, l2, l3, l4, l5, l6, l7, l8, l9, l10, Result.andThen]; done)); go_big_quiet_on) | (refine ⟨.agg #[.int .i64 5, .int .i64 n, .int .u64 (vh : Nat), .int .u64 (vx : Nat), .int .u64 (vy : Nat)], ?_, ?_⟩; (focus (intro w' hw'; obtain ⟨l0, l1, l2, l3, l4⟩ := e3 w' hw'; simp [l0, l1, l2, l3, l4, Result.andThen]; done)); go_big_quiet_on) | (refine ⟨.bool true, ?_, ?_⟩; (focus (intro w' hw'; simp [go_sem, Result.andThen]; done)); go_big_quiet_on)))
    refine wpQuiet_nil ?_
    intro w8 hb8
    go_wp2
    go_ret
    exact ⟨rfl, seq_below bel hb8⟩
  by_cases h6 : kd = 6
  · subst h6
    replace cL := hid1 (show ∀ wr, Below w.heap.size w wr → Calls Try.prog 12 #[.agg #[.int .i64 6, .int .i64 n, .int .i64 o1, .int .i64 c1, .int .u64 (r1 : Nat), .int .i64 o2, .int .i64 c2, .int .u64 (r2 : Nat), .int .i64 o3, .int .i64 c3, .int .u64 (r3 : Nat)], .int .i64 self, .slice ad len cap] wr fun r w' => r = .returned (.agg #[.int .i64 6, .int .i64 n, .int .u64 (vh : Nat), .int .u64 ((0 : Nat) : Nat), .int .u64 ((0 : Nat) : Nat)]) ∧ Below wr.heap.size wr w' from cL.out)
    obtain ⟨y0, y1, y2, y3, y4, y5, y6, y7, y8, y9, y10⟩ := op_cells hO
    obtain ⟨x0, x1, x2, x3, x4⟩ := cl_cells hC
    have zf := cells_free hC 1
    go_upto_region 4 with fail
    clear zf
    replace bel := bel.setCell (p := ⟨bC, 1, none⟩) hbC.out (.int .i64 n)
    replace hO := (heap_side (o := 1) hOC.out (.int .i64 n)).trans hO
    replace hC := heap_put (o := 1) hC (.int .i64 n)
    replace hC := hid1 hC
    generalize World.setCell _ _ _ = w6 at *
    replace hC := hC.out
    simp only [List.setIfInBounds_toArray, List.set_cons_zero, List.set_cons_succ] at hC
    clear y0 y1 y2 y3 y4 y5 y6 y7 y8 y9 y10 x0 x1 x2 x3 x4
    obtain ⟨y0, y1, y2, y3, y4, y5, y6, y7, y8, y9, y10⟩ := op_cells hO
    obtain ⟨x0, x1, x2, x3, x4⟩ := cl_cells hC
    go_upto_region 6 with (go_at_call 10; with_reducible refine (vH.out _ bel).mono ?_; rintro r w5 ⟨rfl, b⟩; replace bel := seq_below bel b; replace hO := (b.block _ (lt_of_block hO)).trans hO; replace hC := (b.block _ (lt_of_block hC)).trans hC; clear b; clear y0 y1 y2 y3 y4 y5 y6 y7 y8 y9 y10 x0 x1 x2 x3 x4; obtain ⟨y0, y1, y2, y3, y4, y5, y6, y7, y8, y9, y10⟩ := op_cells hO; obtain ⟨x0, x1, x2, x3, x4⟩ := cl_cells hC; have zf := cells_free hC 2)
    clear zf
    replace bel := bel.setCell (p := ⟨bC, 2, none⟩) hbC.out (.int .u64 (vh : Nat))
    replace hO := (heap_side (o := 2) hOC.out (.int .u64 (vh : Nat))).trans hO
    replace hC := heap_put (o := 2) hC (.int .u64 (vh : Nat))
    replace hC := hid1 hC
    generalize World.setCell _ _ _ = w6 at *
    replace hC := hC.out
    simp only [List.setIfInBounds_toArray, List.set_cons_zero, List.set_cons_succ] at hC
    clear y0 y1 y2 y3 y4 y5 y6 y7 y8 y9 y10 x0 x1 x2 x3 x4
    obtain ⟨y0, y1, y2, y3, y4, y5, y6, y7, y8, y9, y10⟩ := op_cells hO
    obtain ⟨x0, x1, x2, x3, x4⟩ := cl_cells hC
    go_upto_region 10 with fail
    clear y0 y1 y2 y3 y4 y5 y6 y7 y8 y9 y10 x0 x1 x2 x3 x4
    generalize hww : w6 = w7 at *
    have k1 := (fun (w' : World) (hw' : Below w7.heap.size w7 w') => (cL.out w' (seq_below bel hw')).mono fun _ _ ⟨he, hb⟩ => ⟨he, seq_below hw' hb⟩ : ∀ w', Below w7.heap.size w7 w' → Calls Try.prog 12 #[.agg #[.int .i64 6, .int .i64 n, .int .i64 o1, .int .i64 c1, .int .u64 (r1 : Nat), .int .i64 o2, .int .i64 c2, .int .u64 (r2 : Nat), .int .i64 o3, .int .i64 c3, .int .u64 (r3 : Nat)], .int .i64 self, .slice ad len cap] w' fun r w'' => r = .returned (.agg #[.int .i64 6, .int .i64 n, .int .u64 (vh : Nat), .int .u64 ((0 : Nat) : Nat), .int .u64 ((0 : Nat) : Nat)]) ∧ Below w7.heap.size w7 w'')
    have k3 := (fun (w' : World) (hw' : Below w7.heap.size w7 w') => (awake16 w').mono fun _ _ ⟨he, hb⟩ => ⟨he, seq_below hw' hb⟩ : ∀ w', Below w7.heap.size w7 w' → Calls Try.prog 11 #[] w' fun r w'' => r = .returned (.bool true) ∧ Below w7.heap.size w7 w'')
    have e2 := fun (w' : World) (hw' : Below w7.heap.size w7 w') => op_cells ((hw'.block _ (lt_of_block hO)).trans hO)
    have e3 := fun (w' : World) (hw' : Below w7.heap.size w7 w') => cl_cells ((hw'.block _ (lt_of_block hC)).trans hC)
    refine region_below (by kernel_rfl) (by kernel_rfl) ?_
    repeat (first | go_big_quiet_skip | (go_big_quiet_want; go_big_quiet_op; first | go_big_quiet_on | (refine ⟨_, fun _ _ => rfl, ?_⟩; go_big_quiet_on) | (with_reducible refine ⟨_, k1, ?_⟩; go_big_quiet_on) | (with_reducible refine ⟨_, k3, ?_⟩; go_big_quiet_on) | (refine ⟨.agg #[.int .i64 6, .int .i64 n, .int .i64 o1, .int .i64 c1, .int .u64 (r1 : Nat), .int .i64 o2, .int .i64 c2, .int .u64 (r2 : Nat), .int .i64 o3, .int .i64 c3, .int .u64 (r3 : Nat)], ?_, ?_⟩; (focus (intro w' hw'; obtain ⟨l0, l1, l2, l3, l4, l5, l6, l7, l8, l9, l10⟩ := e2 w' hw'; simp [l0, l1, l2, l3, l4, l5, l6, l7, l8, l9, l10, Result.andThen]; done)); go_big_quiet_on) | (refine ⟨.agg #[.int .i64 6, .int .i64 n, .int .u64 (vh : Nat), .int .u64 ((0 : Nat) : Nat), .int .u64 ((0 : Nat) : Nat)], ?_, ?_⟩; (focus (intro w' hw'; obtain ⟨l0, l1, l2, l3, l4⟩ := e3 w' hw'; simp [l0, l1, l2, l3, l4, Result.andThen]; done)); go_big_quiet_on) | (refine ⟨.bool true, ?_, ?_⟩; (focus (intro w' hw'; simp [go_sem, Result.andThen]; done)); go_big_quiet_on)))
    refine wpQuiet_nil ?_
    intro w8 hb8
    go_wp2
    go_ret
    exact ⟨rfl, seq_below bel hb8⟩
  by_cases h7 : kd = 7
  · subst h7
    replace cL := hid1 (show ∀ wr, Below w.heap.size w wr → Calls Try.prog 12 #[.agg #[.int .i64 7, .int .i64 n, .int .i64 o1, .int .i64 c1, .int .u64 (r1 : Nat), .int .i64 o2, .int .i64 c2, .int .u64 (r2 : Nat), .int .i64 o3, .int .i64 c3, .int .u64 (r3 : Nat)], .int .i64 self, .slice ad len cap] wr fun r w' => r = .returned (.agg #[.int .i64 7, .int .i64 n, .int .u64 (vh : Nat), .int .u64 (vx : Nat), .int .u64 ((0 : Nat) : Nat)]) ∧ Below wr.heap.size wr w' from cL.out)
    obtain ⟨y0, y1, y2, y3, y4, y5, y6, y7, y8, y9, y10⟩ := op_cells hO
    obtain ⟨x0, x1, x2, x3, x4⟩ := cl_cells hC
    have zf := cells_free hC 1
    go_upto_region 4 with fail
    clear zf
    replace bel := bel.setCell (p := ⟨bC, 1, none⟩) hbC.out (.int .i64 n)
    replace hO := (heap_side (o := 1) hOC.out (.int .i64 n)).trans hO
    replace hC := heap_put (o := 1) hC (.int .i64 n)
    replace hC := hid1 hC
    generalize World.setCell _ _ _ = w6 at *
    replace hC := hC.out
    simp only [List.setIfInBounds_toArray, List.set_cons_zero, List.set_cons_succ] at hC
    clear y0 y1 y2 y3 y4 y5 y6 y7 y8 y9 y10 x0 x1 x2 x3 x4
    obtain ⟨y0, y1, y2, y3, y4, y5, y6, y7, y8, y9, y10⟩ := op_cells hO
    obtain ⟨x0, x1, x2, x3, x4⟩ := cl_cells hC
    go_upto_region 6 with (go_at_call 10; with_reducible refine (vH.out _ bel).mono ?_; rintro r w5 ⟨rfl, b⟩; replace bel := seq_below bel b; replace hO := (b.block _ (lt_of_block hO)).trans hO; replace hC := (b.block _ (lt_of_block hC)).trans hC; clear b; clear y0 y1 y2 y3 y4 y5 y6 y7 y8 y9 y10 x0 x1 x2 x3 x4; obtain ⟨y0, y1, y2, y3, y4, y5, y6, y7, y8, y9, y10⟩ := op_cells hO; obtain ⟨x0, x1, x2, x3, x4⟩ := cl_cells hC; have zf := cells_free hC 2)
    clear zf
    replace bel := bel.setCell (p := ⟨bC, 2, none⟩) hbC.out (.int .u64 (vh : Nat))
    replace hO := (heap_side (o := 2) hOC.out (.int .u64 (vh : Nat))).trans hO
    replace hC := heap_put (o := 2) hC (.int .u64 (vh : Nat))
    replace hC := hid1 hC
    generalize World.setCell _ _ _ = w6 at *
    replace hC := hC.out
    simp only [List.setIfInBounds_toArray, List.set_cons_zero, List.set_cons_succ] at hC
    clear y0 y1 y2 y3 y4 y5 y6 y7 y8 y9 y10 x0 x1 x2 x3 x4
    obtain ⟨y0, y1, y2, y3, y4, y5, y6, y7, y8, y9, y10⟩ := op_cells hO
    obtain ⟨x0, x1, x2, x3, x4⟩ := cl_cells hC
    go_upto_region 8 with (go_at_call 10; with_reducible refine (vX.out _ bel).mono ?_; rintro r w5 ⟨rfl, b⟩; replace bel := seq_below bel b; replace hO := (b.block _ (lt_of_block hO)).trans hO; replace hC := (b.block _ (lt_of_block hC)).trans hC; clear b; clear y0 y1 y2 y3 y4 y5 y6 y7 y8 y9 y10 x0 x1 x2 x3 x4; obtain ⟨y0, y1, y2, y3, y4, y5, y6, y7, y8, y9, y10⟩ := op_cells hO; obtain ⟨x0, x1, x2, x3, x4⟩ := cl_cells hC; have zf := cells_free hC 3)
    clear zf
    replace bel := bel.setCell (p := ⟨bC, 3, none⟩) hbC.out (.int .u64 (vx : Nat))
    replace hO := (heap_side (o := 3) hOC.out (.int .u64 (vx : Nat))).trans hO
    replace hC := heap_put (o := 3) hC (.int .u64 (vx : Nat))
    replace hC := hid1 hC
    generalize World.setCell _ _ _ = w6 at *
    replace hC := hC.out
    simp only [List.setIfInBounds_toArray, List.set_cons_zero, List.set_cons_succ] at hC
    clear y0 y1 y2 y3 y4 y5 y6 y7 y8 y9 y10 x0 x1 x2 x3 x4
    obtain ⟨y0, y1, y2, y3, y4, y5, y6, y7, y8, y9, y10⟩ := op_cells hO
    obtain ⟨x0, x1, x2, x3, x4⟩ := cl_cells hC
    go_upto_region 10 with fail
    clear y0 y1 y2 y3 y4 y5 y6 y7 y8 y9 y10 x0 x1 x2 x3 x4
    generalize hww : w6 = w7 at *
    have k1 := (fun (w' : World) (hw' : Below w7.heap.size w7 w') => (cL.out w' (seq_below bel hw')).mono fun _ _ ⟨he, hb⟩ => ⟨he, seq_below hw' hb⟩ : ∀ w', Below w7.heap.size w7 w' → Calls Try.prog 12 #[.agg #[.int .i64 7, .int .i64 n, .int .i64 o1, .int .i64 c1, .int .u64 (r1 : Nat), .int .i64 o2, .int .i64 c2, .int .u64 (r2 : Nat), .int .i64 o3, .int .i64 c3, .int .u64 (r3 : Nat)], .int .i64 self, .slice ad len cap] w' fun r w'' => r = .returned (.agg #[.int .i64 7, .int .i64 n, .int .u64 (vh : Nat), .int .u64 (vx : Nat), .int .u64 ((0 : Nat) : Nat)]) ∧ Below w7.heap.size w7 w'')
    have k3 := (fun (w' : World) (hw' : Below w7.heap.size w7 w') => (awake16 w').mono fun _ _ ⟨he, hb⟩ => ⟨he, seq_below hw' hb⟩ : ∀ w', Below w7.heap.size w7 w' → Calls Try.prog 11 #[] w' fun r w'' => r = .returned (.bool true) ∧ Below w7.heap.size w7 w'')
    have e2 := fun (w' : World) (hw' : Below w7.heap.size w7 w') => op_cells ((hw'.block _ (lt_of_block hO)).trans hO)
    have e3 := fun (w' : World) (hw' : Below w7.heap.size w7 w') => cl_cells ((hw'.block _ (lt_of_block hC)).trans hC)
    refine region_below (by kernel_rfl) (by kernel_rfl) ?_
    repeat (first | go_big_quiet_skip | (go_big_quiet_want; go_big_quiet_op; first | go_big_quiet_on | (refine ⟨_, fun _ _ => rfl, ?_⟩; go_big_quiet_on) | (with_reducible refine ⟨_, k1, ?_⟩; go_big_quiet_on) | (with_reducible refine ⟨_, k3, ?_⟩; go_big_quiet_on) | (refine ⟨.agg #[.int .i64 7, .int .i64 n, .int .i64 o1, .int .i64 c1, .int .u64 (r1 : Nat), .int .i64 o2, .int .i64 c2, .int .u64 (r2 : Nat), .int .i64 o3, .int .i64 c3, .int .u64 (r3 : Nat)], ?_, ?_⟩; (focus (intro w' hw'; obtain ⟨l0, l1, l2, l3, l4, l5, l6, l7, l8, l9, l10⟩ := e2 w' hw'; simp [l0, l1, l2, l3, l4, l5, l6, l7, l8, l9, l10, Result.andThen]; done)); go_big_quiet_on) | (refine ⟨.agg #[.int .i64 7, .int .i64 n, .int .u64 (vh : Nat), .int .u64 (vx : Nat), .int .u64 ((0 : Nat) : Nat)], ?_, ?_⟩; (focus (intro w' hw'; obtain ⟨l0, l1, l2, l3, l4⟩ := e3 w' hw'; simp [l0, l1, l2, l3, l4, Result.andThen]; done)); go_big_quiet_on) | (refine ⟨.bool true, ?_, ?_⟩; (focus (intro w' hw'; simp [go_sem, Result.andThen]; done)); go_big_quiet_on)))
    refine wpQuiet_nil ?_
    intro w8 hb8
    go_wp2
    go_ret
    exact ⟨rfl, seq_below bel hb8⟩
  by_cases h8 : kd = 8
  · subst h8
    replace cL := hid1 (show ∀ wr, Below w.heap.size w wr → Calls Try.prog 12 #[.agg #[.int .i64 8, .int .i64 n, .int .i64 o1, .int .i64 c1, .int .u64 (r1 : Nat), .int .i64 o2, .int .i64 c2, .int .u64 (r2 : Nat), .int .i64 o3, .int .i64 c3, .int .u64 (r3 : Nat)], .int .i64 self, .slice ad len cap] wr fun r w' => r = .returned (.agg #[.int .i64 8, .int .i64 n, .int .u64 (vh : Nat), .int .u64 ((0 : Nat) : Nat), .int .u64 ((0 : Nat) : Nat)]) ∧ Below wr.heap.size wr w' from cL.out)
    obtain ⟨y0, y1, y2, y3, y4, y5, y6, y7, y8, y9, y10⟩ := op_cells hO
    obtain ⟨x0, x1, x2, x3, x4⟩ := cl_cells hC
    have zf := cells_free hC 1
    go_upto_region 4 with fail
    clear zf
    replace bel := bel.setCell (p := ⟨bC, 1, none⟩) hbC.out (.int .i64 n)
    replace hO := (heap_side (o := 1) hOC.out (.int .i64 n)).trans hO
    replace hC := heap_put (o := 1) hC (.int .i64 n)
    replace hC := hid1 hC
    generalize World.setCell _ _ _ = w6 at *
    replace hC := hC.out
    simp only [List.setIfInBounds_toArray, List.set_cons_zero, List.set_cons_succ] at hC
    clear y0 y1 y2 y3 y4 y5 y6 y7 y8 y9 y10 x0 x1 x2 x3 x4
    obtain ⟨y0, y1, y2, y3, y4, y5, y6, y7, y8, y9, y10⟩ := op_cells hO
    obtain ⟨x0, x1, x2, x3, x4⟩ := cl_cells hC
    go_upto_region 6 with (go_at_call 10; with_reducible refine (vH.out _ bel).mono ?_; rintro r w5 ⟨rfl, b⟩; replace bel := seq_below bel b; replace hO := (b.block _ (lt_of_block hO)).trans hO; replace hC := (b.block _ (lt_of_block hC)).trans hC; clear b; clear y0 y1 y2 y3 y4 y5 y6 y7 y8 y9 y10 x0 x1 x2 x3 x4; obtain ⟨y0, y1, y2, y3, y4, y5, y6, y7, y8, y9, y10⟩ := op_cells hO; obtain ⟨x0, x1, x2, x3, x4⟩ := cl_cells hC; have zf := cells_free hC 2)
    clear zf
    replace bel := bel.setCell (p := ⟨bC, 2, none⟩) hbC.out (.int .u64 (vh : Nat))
    replace hO := (heap_side (o := 2) hOC.out (.int .u64 (vh : Nat))).trans hO
    replace hC := heap_put (o := 2) hC (.int .u64 (vh : Nat))
    replace hC := hid1 hC
    generalize World.setCell _ _ _ = w6 at *
    replace hC := hC.out
    simp only [List.setIfInBounds_toArray, List.set_cons_zero, List.set_cons_succ] at hC
    clear y0 y1 y2 y3 y4 y5 y6 y7 y8 y9 y10 x0 x1 x2 x3 x4
    obtain ⟨y0, y1, y2, y3, y4, y5, y6, y7, y8, y9, y10⟩ := op_cells hO
    obtain ⟨x0, x1, x2, x3, x4⟩ := cl_cells hC
    go_upto_region 10 with fail
    clear y0 y1 y2 y3 y4 y5 y6 y7 y8 y9 y10 x0 x1 x2 x3 x4
    generalize hww : w6 = w7 at *
    have k1 := (fun (w' : World) (hw' : Below w7.heap.size w7 w') => (cL.out w' (seq_below bel hw')).mono fun _ _ ⟨he, hb⟩ => ⟨he, seq_below hw' hb⟩ : ∀ w', Below w7.heap.size w7 w' → Calls Try.prog 12 #[.agg #[.int .i64 8, .int .i64 n, .int .i64 o1, .int .i64 c1, .int .u64 (r1 : Nat), .int .i64 o2, .int .i64 c2, .int .u64 (r2 : Nat), .int .i64 o3, .int .i64 c3, .int .u64 (r3 : Nat)], .int .i64 self, .slice ad len cap] w' fun r w'' => r = .returned (.agg #[.int .i64 8, .int .i64 n, .int .u64 (vh : Nat), .int .u64 ((0 : Nat) : Nat), .int .u64 ((0 : Nat) : Nat)]) ∧ Below w7.heap.size w7 w'')
    have k3 := (fun (w' : World) (hw' : Below w7.heap.size w7 w') => (awake16 w').mono fun _ _ ⟨he, hb⟩ => ⟨he, seq_below hw' hb⟩ : ∀ w', Below w7.heap.size w7 w' → Calls Try.prog 11 #[] w' fun r w'' => r = .returned (.bool true) ∧ Below w7.heap.size w7 w'')
    have e2 := fun (w' : World) (hw' : Below w7.heap.size w7 w') => op_cells ((hw'.block _ (lt_of_block hO)).trans hO)
    have e3 := fun (w' : World) (hw' : Below w7.heap.size w7 w') => cl_cells ((hw'.block _ (lt_of_block hC)).trans hC)
    refine region_below (by kernel_rfl) (by kernel_rfl) ?_
    repeat (first | go_big_quiet_skip | (go_big_quiet_want; go_big_quiet_op; first | go_big_quiet_on | (refine ⟨_, fun _ _ => rfl, ?_⟩; go_big_quiet_on) | (with_reducible refine ⟨_, k1, ?_⟩; go_big_quiet_on) | (with_reducible refine ⟨_, k3, ?_⟩; go_big_quiet_on) | (refine ⟨.agg #[.int .i64 8, .int .i64 n, .int .i64 o1, .int .i64 c1, .int .u64 (r1 : Nat), .int .i64 o2, .int .i64 c2, .int .u64 (r2 : Nat), .int .i64 o3, .int .i64 c3, .int .u64 (r3 : Nat)], ?_, ?_⟩; (focus (intro w' hw'; obtain ⟨l0, l1, l2, l3, l4, l5, l6, l7, l8, l9, l10⟩ := e2 w' hw'; simp [l0, l1, l2, l3, l4, l5, l6, l7, l8, l9, l10, Result.andThen]; done)); go_big_quiet_on) | (refine ⟨.agg #[.int .i64 8, .int .i64 n, .int .u64 (vh : Nat), .int .u64 ((0 : Nat) : Nat), .int .u64 ((0 : Nat) : Nat)], ?_, ?_⟩; (focus (intro w' hw'; obtain ⟨l0, l1, l2, l3, l4⟩ := e3 w' hw'; simp [l0, l1, l2, l3, l4, Result.andThen]; done)); go_big_quiet_on) | (refine ⟨.bool true, ?_, ?_⟩; (focus (intro w' hw'; simp [go_sem, Result.andThen]; done)); go_big_quiet_on)))
    refine wpQuiet_nil ?_
    intro w8 hb8
    go_wp2
    go_ret
    exact ⟨rfl, seq_below bel hb8⟩
  by_cases h9 : kd = 9
  · subst h9
    replace cL := hid1 (show ∀ wr, Below w.heap.size w wr → Calls Try.prog 12 #[.agg #[.int .i64 9, .int .i64 n, .int .i64 o1, .int .i64 c1, .int .u64 (r1 : Nat), .int .i64 o2, .int .i64 c2, .int .u64 (r2 : Nat), .int .i64 o3, .int .i64 c3, .int .u64 (r3 : Nat)], .int .i64 self, .slice ad len cap] wr fun r w' => r = .returned (.agg #[.int .i64 9, .int .i64 n, .int .u64 (vh : Nat), .int .u64 ((0 : Nat) : Nat), .int .u64 ((0 : Nat) : Nat)]) ∧ Below wr.heap.size wr w' from cL.out)
    obtain ⟨y0, y1, y2, y3, y4, y5, y6, y7, y8, y9, y10⟩ := op_cells hO
    obtain ⟨x0, x1, x2, x3, x4⟩ := cl_cells hC
    have zf := cells_free hC 1
    go_upto_region 4 with fail
    clear zf
    replace bel := bel.setCell (p := ⟨bC, 1, none⟩) hbC.out (.int .i64 n)
    replace hO := (heap_side (o := 1) hOC.out (.int .i64 n)).trans hO
    replace hC := heap_put (o := 1) hC (.int .i64 n)
    replace hC := hid1 hC
    generalize World.setCell _ _ _ = w6 at *
    replace hC := hC.out
    simp only [List.setIfInBounds_toArray, List.set_cons_zero, List.set_cons_succ] at hC
    clear y0 y1 y2 y3 y4 y5 y6 y7 y8 y9 y10 x0 x1 x2 x3 x4
    obtain ⟨y0, y1, y2, y3, y4, y5, y6, y7, y8, y9, y10⟩ := op_cells hO
    obtain ⟨x0, x1, x2, x3, x4⟩ := cl_cells hC
    go_upto_region 6 with (go_at_call 10; with_reducible refine (vH.out _ bel).mono ?_; rintro r w5 ⟨rfl, b⟩; replace bel := seq_below bel b; replace hO := (b.block _ (lt_of_block hO)).trans hO; replace hC := (b.block _ (lt_of_block hC)).trans hC; clear b; clear y0 y1 y2 y3 y4 y5 y6 y7 y8 y9 y10 x0 x1 x2 x3 x4; obtain ⟨y0, y1, y2, y3, y4, y5, y6, y7, y8, y9, y10⟩ := op_cells hO; obtain ⟨x0, x1, x2, x3, x4⟩ := cl_cells hC; have zf := cells_free hC 2)
    clear zf
    replace bel := bel.setCell (p := ⟨bC, 2, none⟩) hbC.out (.int .u64 (vh : Nat))
    replace hO := (heap_side (o := 2) hOC.out (.int .u64 (vh : Nat))).trans hO
    replace hC := heap_put (o := 2) hC (.int .u64 (vh : Nat))
    replace hC := hid1 hC
    generalize World.setCell _ _ _ = w6 at *
    replace hC := hC.out
    simp only [List.setIfInBounds_toArray, List.set_cons_zero, List.set_cons_succ] at hC
    clear y0 y1 y2 y3 y4 y5 y6 y7 y8 y9 y10 x0 x1 x2 x3 x4
    obtain ⟨y0, y1, y2, y3, y4, y5, y6, y7, y8, y9, y10⟩ := op_cells hO
    obtain ⟨x0, x1, x2, x3, x4⟩ := cl_cells hC
    go_upto_region 10 with fail
    clear y0 y1 y2 y3 y4 y5 y6 y7 y8 y9 y10 x0 x1 x2 x3 x4
    generalize hww : w6 = w7 at *
    have k1 := (fun (w' : World) (hw' : Below w7.heap.size w7 w') => (cL.out w' (seq_below bel hw')).mono fun _ _ ⟨he, hb⟩ => ⟨he, seq_below hw' hb⟩ : ∀ w', Below w7.heap.size w7 w' → Calls Try.prog 12 #[.agg #[.int .i64 9, .int .i64 n, .int .i64 o1, .int .i64 c1, .int .u64 (r1 : Nat), .int .i64 o2, .int .i64 c2, .int .u64 (r2 : Nat), .int .i64 o3, .int .i64 c3, .int .u64 (r3 : Nat)], .int .i64 self, .slice ad len cap] w' fun r w'' => r = .returned (.agg #[.int .i64 9, .int .i64 n, .int .u64 (vh : Nat), .int .u64 ((0 : Nat) : Nat), .int .u64 ((0 : Nat) : Nat)]) ∧ Below w7.heap.size w7 w'')
    have k3 := (fun (w' : World) (hw' : Below w7.heap.size w7 w') => (awake16 w').mono fun _ _ ⟨he, hb⟩ => ⟨he, seq_below hw' hb⟩ : ∀ w', Below w7.heap.size w7 w' → Calls Try.prog 11 #[] w' fun r w'' => r = .returned (.bool true) ∧ Below w7.heap.size w7 w'')
    have e2 := fun (w' : World) (hw' : Below w7.heap.size w7 w') => op_cells ((hw'.block _ (lt_of_block hO)).trans hO)
    have e3 := fun (w' : World) (hw' : Below w7.heap.size w7 w') => cl_cells ((hw'.block _ (lt_of_block hC)).trans hC)
    refine region_below (by kernel_rfl) (by kernel_rfl) ?_
    repeat (first | go_big_quiet_skip | (go_big_quiet_want; go_big_quiet_op; first | go_big_quiet_on | (refine ⟨_, fun _ _ => rfl, ?_⟩; go_big_quiet_on) | (with_reducible refine ⟨_, k1, ?_⟩; go_big_quiet_on) | (with_reducible refine ⟨_, k3, ?_⟩; go_big_quiet_on) | (refine ⟨.agg #[.int .i64 9, .int .i64 n, .int .i64 o1, .int .i64 c1, .int .u64 (r1 : Nat), .int .i64 o2, .int .i64 c2, .int .u64 (r2 : Nat), .int .i64 o3, .int .i64 c3, .int .u64 (r3 : Nat)], ?_, ?_⟩; (focus (intro w' hw'; obtain ⟨l0, l1, l2, l3, l4, l5, l6, l7, l8, l9, l10⟩ := e2 w' hw'; simp [l0, l1, l2, l3, l4, l5, l6, l7, l8, l9, l10, Result.andThen]; done)); go_big_quiet_on) | (refine ⟨.agg #[.int .i64 9, .int .i64 n, .int .u64 (vh : Nat), .int .u64 ((0 : Nat) : Nat), .int .u64 ((0 : Nat) : Nat)], ?_, ?_⟩; (focus (intro w' hw'; obtain ⟨l0, l1, l2, l3, l4⟩ := e3 w' hw'; simp [l0, l1, l2, l3, l4, Result.andThen]; done)); go_big_quiet_on) | (refine ⟨.bool true, ?_, ?_⟩; (focus (intro w' hw'; simp [go_sem, Result.andThen]; done)); go_big_quiet_on)))
    refine wpQuiet_nil ?_
    intro w8 hb8
    go_wp2
    go_ret
    exact ⟨rfl, seq_below bel hb8⟩
  by_cases h10 : kd = 10
  · subst h10
    replace cL := hid1 (show ∀ wr, Below w.heap.size w wr → Calls Try.prog 12 #[.agg #[.int .i64 10, .int .i64 n, .int .i64 o1, .int .i64 c1, .int .u64 (r1 : Nat), .int .i64 o2, .int .i64 c2, .int .u64 (r2 : Nat), .int .i64 o3, .int .i64 c3, .int .u64 (r3 : Nat)], .int .i64 self, .slice ad len cap] wr fun r w' => r = .returned (.agg #[.int .i64 10, .int .i64 n, .int .u64 (vh : Nat), .int .u64 ((0 : Nat) : Nat), .int .u64 ((0 : Nat) : Nat)]) ∧ Below wr.heap.size wr w' from cL.out)
    obtain ⟨y0, y1, y2, y3, y4, y5, y6, y7, y8, y9, y10⟩ := op_cells hO
    obtain ⟨x0, x1, x2, x3, x4⟩ := cl_cells hC
    have zf := cells_free hC 1
    go_upto_region 4 with fail
    clear zf
    replace bel := bel.setCell (p := ⟨bC, 1, none⟩) hbC.out (.int .i64 n)
    replace hO := (heap_side (o := 1) hOC.out (.int .i64 n)).trans hO
    replace hC := heap_put (o := 1) hC (.int .i64 n)
    replace hC := hid1 hC
    generalize World.setCell _ _ _ = w6 at *
    replace hC := hC.out
    simp only [List.setIfInBounds_toArray, List.set_cons_zero, List.set_cons_succ] at hC
    clear y0 y1 y2 y3 y4 y5 y6 y7 y8 y9 y10 x0 x1 x2 x3 x4
    obtain ⟨y0, y1, y2, y3, y4, y5, y6, y7, y8, y9, y10⟩ := op_cells hO
    obtain ⟨x0, x1, x2, x3, x4⟩ := cl_cells hC
    go_upto_region 6 with (go_at_call 10; with_reducible refine (vH.out _ bel).mono ?_; rintro r w5 ⟨rfl, b⟩; replace bel := seq_below bel b; replace hO := (b.block _ (lt_of_block hO)).trans hO; replace hC := (b.block _ (lt_of_block hC)).trans hC; clear b; clear y0 y1 y2 y3 y4 y5 y6 y7 y8 y9 y10 x0 x1 x2 x3 x4; obtain ⟨y0, y1, y2, y3, y4, y5, y6, y7, y8, y9, y10⟩ := op_cells hO; obtain ⟨x0, x1, x2, x3, x4⟩ := cl_cells hC; have zf := cells_free hC 2)
    clear zf
    replace bel := bel.setCell (p := ⟨bC, 2, none⟩) hbC.out (.int .u64 (vh : Nat))
    replace hO := (heap_side (o := 2) hOC.out (.int .u64 (vh : Nat))).trans hO
    replace hC := heap_put (o := 2) hC (.int .u64 (vh : Nat))
    replace hC := hid1 hC
    generalize World.setCell _ _ _ = w6 at *
    replace hC := hC.out
    simp only [List.setIfInBounds_toArray, List.set_cons_zero, List.set_cons_succ] at hC
    clear y0 y1 y2 y3 y4 y5 y6 y7 y8 y9 y10 x0 x1 x2 x3 x4
    obtain ⟨y0, y1, y2, y3, y4, y5, y6, y7, y8, y9, y10⟩ := op_cells hO
    obtain ⟨x0, x1, x2, x3, x4⟩ := cl_cells hC
    go_upto_region 10 with fail
    clear y0 y1 y2 y3 y4 y5 y6 y7 y8 y9 y10 x0 x1 x2 x3 x4
    generalize hww : w6 = w7 at *
    have k1 := (fun (w' : World) (hw' : Below w7.heap.size w7 w') => (cL.out w' (seq_below bel hw')).mono fun _ _ ⟨he, hb⟩ => ⟨he, seq_below hw' hb⟩ : ∀ w', Below w7.heap.size w7 w' → Calls Try.prog 12 #[.agg #[.int .i64 10, .int .i64 n, .int .i64 o1, .int .i64 c1, .int .u64 (r1 : Nat), .int .i64 o2, .int .i64 c2, .int .u64 (r2 : Nat), .int .i64 o3, .int .i64 c3, .int .u64 (r3 : Nat)], .int .i64 self, .slice ad len cap] w' fun r w'' => r = .returned (.agg #[.int .i64 10, .int .i64 n, .int .u64 (vh : Nat), .int .u64 ((0 : Nat) : Nat), .int .u64 ((0 : Nat) : Nat)]) ∧ Below w7.heap.size w7 w'')
    have k3 := (fun (w' : World) (hw' : Below w7.heap.size w7 w') => (awake16 w').mono fun _ _ ⟨he, hb⟩ => ⟨he, seq_below hw' hb⟩ : ∀ w', Below w7.heap.size w7 w' → Calls Try.prog 11 #[] w' fun r w'' => r = .returned (.bool true) ∧ Below w7.heap.size w7 w'')
    have e2 := fun (w' : World) (hw' : Below w7.heap.size w7 w') => op_cells ((hw'.block _ (lt_of_block hO)).trans hO)
    have e3 := fun (w' : World) (hw' : Below w7.heap.size w7 w') => cl_cells ((hw'.block _ (lt_of_block hC)).trans hC)
    refine region_below (by kernel_rfl) (by kernel_rfl) ?_
    repeat (first | go_big_quiet_skip | (go_big_quiet_want; go_big_quiet_op; first | go_big_quiet_on | (refine ⟨_, fun _ _ => rfl, ?_⟩; go_big_quiet_on) | (with_reducible refine ⟨_, k1, ?_⟩; go_big_quiet_on) | (with_reducible refine ⟨_, k3, ?_⟩; go_big_quiet_on) | (refine ⟨.agg #[.int .i64 10, .int .i64 n, .int .i64 o1, .int .i64 c1, .int .u64 (r1 : Nat), .int .i64 o2, .int .i64 c2, .int .u64 (r2 : Nat), .int .i64 o3, .int .i64 c3, .int .u64 (r3 : Nat)], ?_, ?_⟩; (focus (intro w' hw'; obtain ⟨l0, l1, l2, l3, l4, l5, l6, l7, l8, l9, l10⟩ := e2 w' hw'; simp [l0, l1, l2, l3, l4, l5, l6, l7, l8, l9, l10, Result.andThen]; done)); go_big_quiet_on) | (refine ⟨.agg #[.int .i64 10, .int .i64 n, .int .u64 (vh : Nat), .int .u64 ((0 : Nat) : Nat), .int .u64 ((0 : Nat) : Nat)], ?_, ?_⟩; (focus (intro w' hw'; obtain ⟨l0, l1, l2, l3, l4⟩ := e3 w' hw'; simp [l0, l1, l2, l3, l4, Result.andThen]; done)); go_big_quiet_on) | (refine ⟨.bool true, ?_, ?_⟩; (focus (intro w' hw'; simp [go_sem, Result.andThen]; done)); go_big_quiet_on)))
    refine wpQuiet_nil ?_
    intro w8 hb8
    go_wp2
    go_ret
    exact ⟨rfl, seq_below bel hb8⟩
  have g1 : ¬ (1 ≤ kd ∧ kd ≤ 10) := by omega
  have g2 : ¬ (2 ≤ kd ∧ kd ≤ 10) := by omega
  have g3 : ¬ (kd = 3 ∨ kd = 5 ∨ kd = 7) := by omega
  have cL2 := cL.out
  unfold cnF chF cxF cyF at cL2
  rw [if_neg g1, if_neg g2, if_neg g3, if_neg h5] at cL2
  clear cL
  have cL := hid1 cL2
  clear cL2
  have hlt : kd < 1 ∨ 10 < kd := by omega
  clear g1 g2 g3 h1 h2 h3 h4 h5 h6 h7 h8 h9 h10
  by_cases g : 1 ≤ kd
  · have g1 : ¬ kd ≤ 10 := by omega
    have g2 : (1 : Int) ≤ kd := g
    have g3 : decide (kd ≤ 10) = false := decide_eq_false g1
    have g4 : decide ((1 : Int) ≤ kd) = true := decide_eq_true g
    clear hlt
    obtain ⟨y0, y1, y2, y3, y4, y5, y6, y7, y8, y9, y10⟩ := op_cells hO
    obtain ⟨x0, x1, x2, x3, x4⟩ := cl_cells hC
    go_upto_region 10 with fail
    clear y0 y1 y2 y3 y4 y5 y6 y7 y8 y9 y10 x0 x1 x2 x3 x4
    generalize hww : w6 = w7 at *
    have k1 := (fun (w' : World) (hw' : Below w7.heap.size w7 w') => (cL.out w' (seq_below bel hw')).mono fun _ _ ⟨he, hb⟩ => ⟨he, seq_below hw' hb⟩ : ∀ w', Below w7.heap.size w7 w' → Calls Try.prog 12 #[.agg #[.int .i64 kd, .int .i64 n, .int .i64 o1, .int .i64 c1, .int .u64 (r1 : Nat), .int .i64 o2, .int .i64 c2, .int .u64 (r2 : Nat), .int .i64 o3, .int .i64 c3, .int .u64 (r3 : Nat)], .int .i64 self, .slice ad len cap] w' fun r w'' => r = .returned (.agg #[.int .i64 kd, .int .i64 0, .int .u64 ((0 : Nat) : Nat), .int .u64 ((0 : Nat) : Nat), .int .u64 ((0 : Nat) : Nat)]) ∧ Below w7.heap.size w7 w'')
    have k3 := (fun (w' : World) (hw' : Below w7.heap.size w7 w') => (awake16 w').mono fun _ _ ⟨he, hb⟩ => ⟨he, seq_below hw' hb⟩ : ∀ w', Below w7.heap.size w7 w' → Calls Try.prog 11 #[] w' fun r w'' => r = .returned (.bool true) ∧ Below w7.heap.size w7 w'')
    have e2 := fun (w' : World) (hw' : Below w7.heap.size w7 w') => op_cells ((hw'.block _ (lt_of_block hO)).trans hO)
    have e3 := fun (w' : World) (hw' : Below w7.heap.size w7 w') => cl_cells ((hw'.block _ (lt_of_block hC)).trans hC)
    refine region_below (by kernel_rfl) (by kernel_rfl) ?_
    repeat (first | go_big_quiet_skip | (go_big_quiet_want; go_big_quiet_op; first | go_big_quiet_on | (refine ⟨_, fun _ _ => rfl, ?_⟩; go_big_quiet_on) | (with_reducible refine ⟨_, k1, ?_⟩; go_big_quiet_on) | (with_reducible refine ⟨_, k3, ?_⟩; go_big_quiet_on) | (refine ⟨.agg #[.int .i64 kd, .int .i64 n, .int .i64 o1, .int .i64 c1, .int .u64 (r1 : Nat), .int .i64 o2, .int .i64 c2, .int .u64 (r2 : Nat), .int .i64 o3, .int .i64 c3, .int .u64 (r3 : Nat)], ?_, ?_⟩; (focus (intro w' hw'; obtain ⟨l0, l1, l2, l3, l4, l5, l6, l7, l8, l9, l10⟩ := e2 w' hw'; simp [l0, l1, l2, l3, l4, l5, l6, l7, l8, l9, l10, Result.andThen]; done)); go_big_quiet_on) | (refine ⟨.agg #[.int .i64 kd, .int .i64 0, .int .u64 ((0 : Nat) : Nat), .int .u64 ((0 : Nat) : Nat), .int .u64 ((0 : Nat) : Nat)], ?_, ?_⟩; (focus (intro w' hw'; obtain ⟨l0, l1, l2, l3, l4⟩ := e3 w' hw'; simp [l0, l1, l2, l3, l4, Result.andThen]; done)); go_big_quiet_on) | (refine ⟨.bool true, ?_, ?_⟩; (focus (intro w' hw'; simp [go_sem, Result.andThen]; done)); go_big_quiet_on)))
    refine wpQuiet_nil ?_
    intro w8 hb8
    go_wp2
    go_ret
    exact ⟨rfl, seq_below bel hb8⟩
  · have g4 : decide ((1 : Int) ≤ kd) = false := decide_eq_false g
    clear hlt
    obtain ⟨y0, y1, y2, y3, y4, y5, y6, y7, y8, y9, y10⟩ := op_cells hO
    obtain ⟨x0, x1, x2, x3, x4⟩ := cl_cells hC
    go_upto_region 10 with fail
    clear y0 y1 y2 y3 y4 y5 y6 y7 y8 y9 y10 x0 x1 x2 x3 x4
    generalize hww : w6 = w7 at *
    have k1 := (fun (w' : World) (hw' : Below w7.heap.size w7 w') => (cL.out w' (seq_below bel hw')).mono fun _ _ ⟨he, hb⟩ => ⟨he, seq_below hw' hb⟩ : ∀ w', Below w7.heap.size w7 w' → Calls Try.prog 12 #[.agg #[.int .i64 kd, .int .i64 n, .int .i64 o1, .int .i64 c1, .int .u64 (r1 : Nat), .int .i64 o2, .int .i64 c2, .int .u64 (r2 : Nat), .int .i64 o3, .int .i64 c3, .int .u64 (r3 : Nat)], .int .i64 self, .slice ad len cap] w' fun r w'' => r = .returned (.agg #[.int .i64 kd, .int .i64 0, .int .u64 ((0 : Nat) : Nat), .int .u64 ((0 : Nat) : Nat), .int .u64 ((0 : Nat) : Nat)]) ∧ Below w7.heap.size w7 w'')
    have k3 := (fun (w' : World) (hw' : Below w7.heap.size w7 w') => (awake16 w').mono fun _ _ ⟨he, hb⟩ => ⟨he, seq_below hw' hb⟩ : ∀ w', Below w7.heap.size w7 w' → Calls Try.prog 11 #[] w' fun r w'' => r = .returned (.bool true) ∧ Below w7.heap.size w7 w'')
    have e2 := fun (w' : World) (hw' : Below w7.heap.size w7 w') => op_cells ((hw'.block _ (lt_of_block hO)).trans hO)
    have e3 := fun (w' : World) (hw' : Below w7.heap.size w7 w') => cl_cells ((hw'.block _ (lt_of_block hC)).trans hC)
    refine region_below (by kernel_rfl) (by kernel_rfl) ?_
    repeat (first | go_big_quiet_skip | (go_big_quiet_want; go_big_quiet_op; first | go_big_quiet_on | (refine ⟨_, fun _ _ => rfl, ?_⟩; go_big_quiet_on) | (with_reducible refine ⟨_, k1, ?_⟩; go_big_quiet_on) | (with_reducible refine ⟨_, k3, ?_⟩; go_big_quiet_on) | (refine ⟨.agg #[.int .i64 kd, .int .i64 n, .int .i64 o1, .int .i64 c1, .int .u64 (r1 : Nat), .int .i64 o2, .int .i64 c2, .int .u64 (r2 : Nat), .int .i64 o3, .int .i64 c3, .int .u64 (r3 : Nat)], ?_, ?_⟩; (focus (intro w' hw'; obtain ⟨l0, l1, l2, l3, l4, l5, l6, l7, l8, l9, l10⟩ := e2 w' hw'; simp [l0, l1, l2, l3, l4, l5, l6, l7, l8, l9, l10, Result.andThen]; done)); go_big_quiet_on) | (refine ⟨.agg #[.int .i64 kd, .int .i64 0, .int .u64 ((0 : Nat) : Nat), .int .u64 ((0 : Nat) : Nat), .int .u64 ((0 : Nat) : Nat)], ?_, ?_⟩; (focus (intro w' hw'; obtain ⟨l0, l1, l2, l3, l4⟩ := e3 w' hw'; simp [l0, l1, l2, l3, l4, Result.andThen]; done)); go_big_quiet_on) | (refine ⟨.bool true, ?_, ?_⟩; (focus (intro w' hw'; simp [go_sem, Result.andThen]; done)); go_big_quiet_on)))
    refine wpQuiet_nil ?_
    intro w8 hb8
    go_wp2
    go_ret
    exact ⟨rfl, seq_below bel hb8⟩
end Go.Proofs.Ytfllkacebhcbdaa
