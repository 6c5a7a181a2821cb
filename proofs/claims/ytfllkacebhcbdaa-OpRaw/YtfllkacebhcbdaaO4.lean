/- Layer 16: the example; OpKinds, OpValues. -/
import Derived.Test.YtfllkacebhcbdaaO3
namespace Go.Proofs.Ytfllkacebhcbdaa
open Go.RowKit

set_option maxRecDepth 100000 in
set_option maxHeartbeats 2000000 in
theorem awake16 (w : World) : Calls Try.prog 11 #[] w fun r w' => r = .returned (.bool true) ∧ Below w.heap.size w w' := by
  have h1 := new_obj w (.cells #[.int .u64 5, .int .u64 7] 22)
  have b1 := alloc_below w (.cells #[.int .u64 5, .int .u64 7] 22)
  have e1 : (w.alloc (.cells #[.int .u64 5, .int .u64 7] 22)).heap.size = w.heap.size + 1 := by simp
  have h2 := new_obj (w.alloc (.cells #[.int .u64 5, .int .u64 7] 22)) (.cells #[.slice (some ⟨w.heap.size, 0, none⟩) 2 2] 36)
  have b2 := alloc_below (w.alloc (.cells #[.int .u64 5, .int .u64 7] 22)) (.cells #[.slice (some ⟨w.heap.size, 0, none⟩) 2 2] 36)
  replace h1 := (b2.block _ (lt_of_block h1)).trans h1
  rw [e1] at h2
  have bel := seq_below b1 b2
  clear b1 b2 e1
  go_enter Try.func11, Try.ntmps11
  go_upto_region 2 with fail
  generalize World.alloc _ _ = w2 at *
  generalize hS : w.heap.size = S at *
  have hS1 := lt_of_block h2
  have hT : RdT w2 (some ⟨S + 1, 0, none⟩) [[5, 7]] := by
    intro i L hi
    match i, hi with
    | 0, hi =>
      obtain rfl : [5, 7] = L := by simpa using hi
      refine ⟨S + 1, 0, some ⟨S, 0, none⟩, 2, rfl, hS1, by simp [World.cell?, h2], ?_, by decide⟩
      intro j x hj
      match j, hj with
      | 0, hj => obtain rfl : 5 = x := by simpa using hj
                 exact ⟨S, 0, rfl, by omega, by simp [World.cell?, h1]⟩
      | 1, hj => obtain rfl : 7 = x := by simpa using hj
                 exact ⟨S, 0, rfl, by omega, by simp [World.cell?, h1]⟩
      | j + 2, hj => simp at hj
    | i + 1, hi => simp at hi
  have hE : RdT w2 none [] := fun i L hi => by simp at hi
  have c1 : Calls Try.prog 9 #[.agg #[.int .i64 1, .int .i64 (-1), .int .u64 0], .int .i64 0, .slice (some ⟨S + 1, 0, none⟩) 1 1] w2 fun r w' => r = .returned (.int .u64 7) ∧ Below w2.heap.size w2 w' := value_any 1 rfl hT (by decide) 1 (-1) 0 0
  have c2 : ∀ wr, Below w2.heap.size w2 wr → Calls Try.prog 12 #[.agg #[.int .i64 6, .int .i64 3, .int .i64 (-1), .int .i64 0, .int .u64 9, .int .i64 (-1), .int .i64 0, .int .u64 4, .int .i64 0, .int .i64 0, .int .u64 0], .int .i64 0, .slice none 0 0] wr fun r w' => r = .returned (.agg #[.int .i64 6, .int .i64 3, .int .u64 9, .int .u64 0, .int .u64 0]) ∧ Below wr.heap.size wr w' := fun wr b => call_any 0 rfl (hE.below b) (by decide) 6 3 (-1) 0 (-1) 0 0 0 9 4 0 0
  replace c2 := hid1 c2
  replace hS := hid1 hS
  clear h1 h2 hT hE hS1
  go_wp2_with (first
    | (go_at_call 9; with_reducible refine c1.mono ?_; rintro r w3 ⟨rfl, b⟩; replace bel := seq_below (by rw [← hS.out] at bel; exact bel) b; replace c2 := c2.out _ b)
    | (go_at_call 12; with_reducible refine c2.mono ?_; rintro r w4 ⟨rfl, b⟩; replace bel := seq_below bel b))
  go_ret
  exact ⟨rfl, bel⟩
set_option maxHeartbeats 2000000 in
theorem kinds_law (kd : Int) (w : World) : Calls Try.prog 5 #[.int .i64 kd] w fun r w' => r = .returned (.bool true) ∧ Below w.heap.size w w' := by
  have cA := awake16
  have cw := fun w => walk_any kd w
  have cv := fun w => writes_any kd w
  by_cases h9 : kd = 9
  · subst h9
    rw [show (decide (((9 : Int)) = 9) || decide (((9 : Int)) = 10)) = true from rfl] at cw
    rw [show (decide (((9 : Int)) = 3) || decide (((9 : Int)) = 4) || decide (((9 : Int)) = 5)) = false from rfl] at cv
    go_enter Try.func5, Try.ntmps5
    go_wp2_with (first
      | (go_at_call 13; with_reducible refine (cw _).mono ?_; rintro r w3 ⟨rfl, rfl⟩)
      | (go_at_call 14; with_reducible refine (cv _).mono ?_; rintro r w4 ⟨rfl, rfl⟩)
      | (go_at_call 11; with_reducible refine (cA _).mono ?_; rintro r w5 ⟨rfl, b⟩))
    go_ret
    exact ⟨rfl, b⟩
  by_cases h10 : kd = 10
  · subst h10
    rw [show (decide (((10 : Int)) = 9) || decide (((10 : Int)) = 10)) = true from rfl] at cw
    rw [show (decide (((10 : Int)) = 3) || decide (((10 : Int)) = 4) || decide (((10 : Int)) = 5)) = false from rfl] at cv
    go_enter Try.func5, Try.ntmps5
    go_wp2_with (first
      | (go_at_call 13; with_reducible refine (cw _).mono ?_; rintro r w3 ⟨rfl, rfl⟩)
      | (go_at_call 14; with_reducible refine (cv _).mono ?_; rintro r w4 ⟨rfl, rfl⟩)
      | (go_at_call 11; with_reducible refine (cA _).mono ?_; rintro r w5 ⟨rfl, b⟩))
    go_ret
    exact ⟨rfl, b⟩
  by_cases h3 : kd = 3
  · subst h3
    rw [show (decide (((3 : Int)) = 9) || decide (((3 : Int)) = 10)) = false from rfl] at cw
    rw [show (decide (((3 : Int)) = 3) || decide (((3 : Int)) = 4) || decide (((3 : Int)) = 5)) = true from rfl] at cv
    go_enter Try.func5, Try.ntmps5
    go_wp2_with (first
      | (go_at_call 13; with_reducible refine (cw _).mono ?_; rintro r w3 ⟨rfl, rfl⟩)
      | (go_at_call 14; with_reducible refine (cv _).mono ?_; rintro r w4 ⟨rfl, rfl⟩)
      | (go_at_call 11; with_reducible refine (cA _).mono ?_; rintro r w5 ⟨rfl, b⟩))
    go_ret
    exact ⟨rfl, b⟩
  by_cases h4 : kd = 4
  · subst h4
    rw [show (decide (((4 : Int)) = 9) || decide (((4 : Int)) = 10)) = false from rfl] at cw
    rw [show (decide (((4 : Int)) = 3) || decide (((4 : Int)) = 4) || decide (((4 : Int)) = 5)) = true from rfl] at cv
    go_enter Try.func5, Try.ntmps5
    go_wp2_with (first
      | (go_at_call 13; with_reducible refine (cw _).mono ?_; rintro r w3 ⟨rfl, rfl⟩)
      | (go_at_call 14; with_reducible refine (cv _).mono ?_; rintro r w4 ⟨rfl, rfl⟩)
      | (go_at_call 11; with_reducible refine (cA _).mono ?_; rintro r w5 ⟨rfl, b⟩))
    go_ret
    exact ⟨rfl, b⟩
  by_cases h5 : kd = 5
  · subst h5
    rw [show (decide (((5 : Int)) = 9) || decide (((5 : Int)) = 10)) = false from rfl] at cw
    rw [show (decide (((5 : Int)) = 3) || decide (((5 : Int)) = 4) || decide (((5 : Int)) = 5)) = true from rfl] at cv
    go_enter Try.func5, Try.ntmps5
    go_wp2_with (first
      | (go_at_call 13; with_reducible refine (cw _).mono ?_; rintro r w3 ⟨rfl, rfl⟩)
      | (go_at_call 14; with_reducible refine (cv _).mono ?_; rintro r w4 ⟨rfl, rfl⟩)
      | (go_at_call 11; with_reducible refine (cA _).mono ?_; rintro r w5 ⟨rfl, b⟩))
    go_ret
    exact ⟨rfl, b⟩
  rw [decide_eq_false h9, decide_eq_false h10] at cw
  rw [decide_eq_false h3, decide_eq_false h4, decide_eq_false h5] at cv
  simp only [Bool.or_false] at cw cv
  have f9 : (kd == 9) = false := by simp [h9]
  have f10 : (kd == 10) = false := by simp [h10]
  have f3 : (kd == 3) = false := by simp [h3]
  have f4 : (kd == 4) = false := by simp [h4]
  have f5 : (kd == 5) = false := by simp [h5]
  clear h3 h4 h5 h9 h10
  go_enter Try.func5, Try.ntmps5
  go_wp2_with (first
    | (go_at_call 13; with_reducible refine (cw _).mono ?_; rintro r w3 ⟨rfl, rfl⟩)
    | (go_at_call 14; with_reducible refine (cv _).mono ?_; rintro r w4 ⟨rfl, rfl⟩)
    | (go_at_call 11; with_reducible refine (cA _).mono ?_; rintro r w5 ⟨rfl, b⟩))
  go_ret
  exact ⟨rfl, b⟩
set_option maxRecDepth 100000 in
set_option maxHeartbeats 2000000 in
theorem values_law {w : World} {ad : Option Addr} {T : List (List Nat)} {len : Nat} (cap : Nat) (hl : len = T.length) (hT : RdT w ad T) (hb : len < 9223372036854775808) (of cl : Int) (raw : Nat) (self : Int) :
    Calls Try.prog 3 #[.agg #[.int .i64 of, .int .i64 cl, .int .u64 (raw : Nat)], .int .i64 self, .slice ad len cap] w fun r w' => r = .returned (.bool true) ∧ Below w.heap.size w w' := by
  have hq := new_obj w (.cells #[.int .i64 of, .int .i64 cl, .int .u64 (raw : Nat)] 24)
  have bel := alloc_below w (.cells #[.int .i64 of, .int .i64 cl, .int .u64 (raw : Nat)] 24)
  have C1 := hid1 (fun (wr : World) (b : Below w.heap.size w wr) => value_any cap hl (hT.below b) hb of cl raw self)
  have C2 := hid1 (fun (wr : World) (b : Below w.heap.size w wr) => rvalue_any cap hl (hT.below b) hb of cl raw self)
  generalize valF of cl raw self T = fz at *
  clear hl hT hb
  go_enter Try.func3, Try.ntmps3
  go_upto_region 1 with fail
  generalize w.alloc _ = w1 at *
  have k1 := (fun (w' : World) (hw' : Below w1.heap.size w1 w') => (C1.out w' (seq_below bel hw')).mono fun _ _ ⟨he, hb⟩ => ⟨he, seq_below hw' hb⟩ : ∀ w', Below w1.heap.size w1 w' → Calls Try.prog 9 #[.agg #[.int .i64 of, .int .i64 cl, .int .u64 (raw : Nat)], .int .i64 self, .slice ad len cap] w' fun r w'' => r = .returned (.int .u64 (fz : Nat)) ∧ Below w1.heap.size w1 w'')
  have k2 := (fun (w' : World) (hw' : Below w1.heap.size w1 w') => (C2.out w' (seq_below bel hw')).mono fun _ _ ⟨he, hb⟩ => ⟨he, seq_below hw' hb⟩ : ∀ w', Below w1.heap.size w1 w' → Calls Try.prog 10 #[.agg #[.int .i64 of, .int .i64 cl, .int .u64 (raw : Nat)], .int .i64 self, .slice ad len cap] w' fun r w'' => r = .returned (.int .u64 (fz : Nat)) ∧ Below w1.heap.size w1 w'')
  have k3 := (fun (w' : World) (hw' : Below w1.heap.size w1 w') => (awake16 w').mono fun _ _ ⟨he, hb⟩ => ⟨he, seq_below hw' hb⟩ : ∀ w', Below w1.heap.size w1 w' → Calls Try.prog 11 #[] w' fun r w'' => r = .returned (.bool true) ∧ Below w1.heap.size w1 w'')
  have e2 := fun (w' : World) (hw' : Below w1.heap.size w1 w') => arg_cells ((hw'.block _ (lt_of_block hq)).trans hq)
  refine region_below (by kernel_rfl) (by kernel_rfl) ?_
  repeat (first | go_big_quiet_skip | (go_big_quiet_want; go_big_quiet_op; first | go_big_quiet_on | (refine ⟨_, fun _ _ => rfl, ?_⟩; go_big_quiet_on) | (with_reducible refine ⟨_, k1, ?_⟩; go_big_quiet_on) | (with_reducible refine ⟨_, k2, ?_⟩; go_big_quiet_on) | (with_reducible refine ⟨_, k3, ?_⟩; go_big_quiet_on) | (refine ⟨.agg #[.int .i64 of, .int .i64 cl, .int .u64 (raw : Nat)], ?_, ?_⟩; (focus (intro w' hw'; obtain ⟨l0, l1, l2⟩ := e2 w' hw'; simp [l0, l1, l2, Result.andThen]; done)); go_big_quiet_on) | (refine ⟨.bool true, ?_, ?_⟩; (focus (intro w' hw'; simp [go_sem, Result.andThen]; done)); go_big_quiet_on)))
  refine wpQuiet_nil ?_
  intro w8 hb8
  go_wp2
  go_ret
  exact ⟨rfl, seq_below bel hb8⟩
end Go.Proofs.Ytfllkacebhcbdaa
