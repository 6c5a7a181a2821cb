/- Does. -/
import Derived.Test.YtecppcakgfohbabNN
import Derived.Test.YtecppcakgfohbabNS
import Derived.Test.YtecppcakgfohbabNL3
import Derived.Test.YtecppcakgfohbabNL4
import Derived.Test.YtecppcakgfohbabNL5
namespace Go.Proofs.Ytecppcakgfohbab
open Go.RowKit
set_option linter.unusedSimpArgs false
set_option linter.unusedVariables false

set_option maxHeartbeats 400000 in
theorem walk_any (kd : Int) (w : World) : Calls Try.prog 59 #[.int .i64 kd] w fun r w' => r = .returned (.bool (decide (kd = 9) || decide (kd = 10))) ∧ w = w' := by
  by_cases h9 : kd = 9
  · subst h9
    go_enter Try.func59, Try.ntmps59
    go_wp2
    go_ret
    exact ⟨rfl, rfl⟩
  by_cases h10 : kd = 10
  · subst h10
    go_enter Try.func59, Try.ntmps59
    go_wp2
    go_ret
    exact ⟨rfl, rfl⟩
  have f1 : (kd == 9) = false := by simp [h9]
  have f2 : (kd == 10) = false := by simp [h10]
  rw [decide_eq_false h9, decide_eq_false h10]
  go_enter Try.func59, Try.ntmps59
  go_wp2
  go_ret
  exact ⟨rfl, rfl⟩
set_option maxHeartbeats 400000 in
theorem writes_any (kd : Int) (w : World) : Calls Try.prog 54 #[.int .i64 kd] w fun r w' => r = .returned (.bool (decide (kd = 3) || decide (kd = 4) || decide (kd = 5))) ∧ w = w' := by
  by_cases h3 : kd = 3
  · subst h3
    go_enter Try.func54, Try.ntmps54
    go_wp2
    go_ret
    exact ⟨rfl, rfl⟩
  by_cases h4 : kd = 4
  · subst h4
    go_enter Try.func54, Try.ntmps54
    go_wp2
    go_ret
    exact ⟨rfl, rfl⟩
  by_cases h5 : kd = 5
  · subst h5
    go_enter Try.func54, Try.ntmps54
    go_wp2
    go_ret
    exact ⟨rfl, rfl⟩
  have f1 : (kd == 3) = false := by simp [h3]
  have f2 : (kd == 4) = false := by simp [h4]
  have f3 : (kd == 5) = false := by simp [h5]
  rw [decide_eq_false h3, decide_eq_false h4, decide_eq_false h5]
  go_enter Try.func54, Try.ntmps54
  go_wp2
  go_ret
  exact ⟨rfl, rfl⟩

/-- What a call may be answered: the state behind it. -/
def kdO (C : Cg) (X : Sx) (k : Nat) (kd cN : Int) (cH cX cY : Nat) (aE : Int) (aH : Nat) (aY : Bool) : Option Sx :=
  if kd = 1 then mkO C X k cN aE aH aY
  else if kd = 2 then ldO C X k cN cH aE aH aY
  else if kd = 3 ∨ kd = 4 ∨ kd = 5 then wrO X k kd cN cH cX cY aE aH aY
  else if kd = 6 then rlO X k cH aE aH aY
  else if kd = 7 then cpO X k cH cX aE aH aY
  else if kd = 8 then opO X k cH aE aH aY
  else if kd = 9 ∨ kd = 10 then nxO C X k kd cH aE aH aY
  else refO X (sameA aE aH aY 8 0 false)
def dsO (C : Cg) (X : Sx) (who kd cN : Int) (cH cX cY : Nat) (aE : Int) (aH : Nat) (aY : Bool) : Option Sx :=
  if 0 ≤ who ∧ who < (C.c : Nat) then kdO C X who.toNat kd cN cH cX cY aE aH aY else none
set_option maxRecDepth 100000 in
set_option maxHeartbeats 16000000 in
theorem does_k {w : World} {B : Nat} {L : Nat → Prop} {C : Cg} {n : Nat} {X : Sx} {m : Md} (h : MdOk w B L C n X m) (hL : ∀ i, L i → i < w.heap.size) {N : Nat} (iv : X.Inv N) (hN : N < 1000000) (hn : n < 1000000) (hCa : C.a ≤ 8) {k : Nat} (hk : k < C.c) (kd cN : Int) {cH cX cY : Nat} (hcH : cH < 18446744073709551616) (hcX : cX < 18446744073709551616) (hcY : cY < 18446744073709551616) (aE : Int) {aH : Nat} (hH : aH < 18446744073709551616) (aY : Bool) :
    Calls Try.prog 38 #[.pointer (some ⟨B, 0, none⟩), .int .i64 (k : Nat), .agg #[.int .i64 kd, .int .i64 cN, .int .u64 (cH : Nat), .int .u64 (cX : Nat), .int .u64 (cY : Nat)], .agg #[.int .i64 aE, .int .u64 (aH : Nat), .bool aY]] w fun r w' => r = .returned (.bool (kdO C X k kd cN cH cX cY aE aH aY).isSome) ∧ (∃ m', MdOk w' B (Lup L w w') C (n + 2) ((kdO C X k kd cN cH cX cY aE aH aY).getD X) m') ∧ Chg L w w' := by
  obtain ⟨oz, hoz⟩ : ∃ oz, kdO C X k kd cN cH cX cY aE aH aY = oz := ⟨_, rfl⟩
  rw [hoz]
  replace hoz := hid1 hoz
  have hq := new_obj w (.cells #[.int .i64 kd, .int .i64 cN, .int .u64 (cH : Nat), .int .u64 (cX : Nat), .int .u64 (cY : Nat)] 41)
  have b1 := alloc_below w (.cells #[.int .i64 kd, .int .i64 cN, .int .u64 (cH : Nat), .int .u64 (cX : Nat), .int .u64 (cY : Nat)] 41)
  have e1 : (w.alloc (.cells #[.int .i64 kd, .int .i64 cN, .int .u64 (cH : Nat), .int .u64 (cX : Nat), .int .u64 (cY : Nat)] 41)).heap.size = w.heap.size + 1 := by simp
  generalize hw1 : w.alloc (.cells #[.int .i64 kd, .int .i64 cN, .int .u64 (cH : Nat), .int .u64 (cX : Nat), .int .u64 (cY : Nat)] 41) = w0 at hq b1 e1
  have ha := new_obj w0 (.cells #[.int .i64 aE, .int .u64 (aH : Nat), .bool aY] 39)
  have b2 := alloc_below w0 (.cells #[.int .i64 aE, .int .u64 (aH : Nat), .bool aY] 39)
  replace hq := (b2.block _ (lt_of_block hq)).trans hq
  rw [e1] at ha
  have bel := seq_below b1 b2
  replace hw1 := hid1 hw1
  clear b1 b2 e1
  replace h := h.below bel
  have cH0 := has_any h (k : Nat)
  have h0 := hid1 h
  have hL1 : ∀ i, L i → i < (w0.alloc (.cells #[.int .i64 aE, .int .u64 (aH : Nat), .bool aY] 39)).heap.size := fun i q => Nat.lt_of_lt_of_le (hL i q) bel.size
  replace hL1 := hid1 hL1
  replace iv := hid1 iv
  clear hL
  rw [has_yes hk] at cH0
  have hkz : (k : Int) < (C.c : Nat) := by omega
  have hk0 : (0 : Int) ≤ (k : Int) := by omega
  replace cH0 := hid1 cH0
  obtain ⟨x0, x1, x2, x3, x4, x5, x6, x7, x8⟩ := h.cells
  clear h
  by_cases kk1 : kd = 1
  · subst kk1
    have le : kdO C X k 1 cN cH cX cY aE aH aY = mkO C X k cN aE aH aY := by unfold kdO; simp
    obtain ⟨oM, hoM⟩ : ∃ o, mkO C X k cN aE aH aY = o := ⟨_, rfl⟩
    have cM := makes_any h0.out hL1.out iv.out hN hn hk 1 cN hcH hcX hcY aE hH aY hCa
    rw [hoM] at cM
    rw [hoM] at le
    rw [Nat.mul_comm 3 k] at cM
    replace cM := hid1 cM
    replace hoM := hid1 hoM
    replace le := hid1 le
    have cWr := fun w => writes_any 1 w
    have cWk := fun w => walk_any 1 w
    rw [show (decide (((1 : Int)) = 3) || decide (((1 : Int)) = 4) || decide (((1 : Int)) = 5)) = false from rfl] at cWr
    rw [show (decide (((1 : Int)) = 9) || decide (((1 : Int)) = 10)) = false from rfl] at cWk
    go_enter Try.func38, Try.ntmps38
    go_upto_region 1 with fail
    rw [hw1.out]
    clear hw1
    generalize World.alloc _ _ = w1 at *
    generalize hbc : w.heap.size = bq at hq ha ⊢
    replace hbc := hid1 hbc
    obtain ⟨q0, q1, q2, q3, q4⟩ := call_cells hq
    obtain ⟨a0, a1, a2⟩ := ans_cells ha
    go_wp2_with (first
      | (go_at_call 51; with_reducible refine cH0.out.mono ?_; rintro r w2 ⟨rfl, rfl⟩)
      | (go_at_call 52; with_reducible refine cM.out.mono ?_; rintro r w3 ⟨rfl, h3, c3⟩; replace h3 := hid1 h3)
      | (go_at_call 54; with_reducible refine (cWr _).mono ?_; rintro r w4 ⟨rfl, rfl⟩) | (go_at_call 59; with_reducible refine (cWk _).mono ?_; rintro r w4 ⟨rfl, rfl⟩))
    go_ret
    obtain ⟨m3, h3⟩ := h3.out
    exact ⟨by rw [← hoz.out, le.out]; rfl, ⟨m3, by rw [← hoz.out, le.out]; exact h3.up (fun i q => Lup.under bel q)⟩, (Chg.of_below bel).trans (c3.widen bel)⟩
  by_cases kk2 : kd = 2
  · subst kk2
    have le : kdO C X k 2 cN cH cX cY aE aH aY = ldO C X k cN cH aE aH aY := by unfold kdO; simp
    obtain ⟨oM, hoM⟩ : ∃ o, ldO C X k cN cH aE aH aY = o := ⟨_, rfl⟩
    have cM := loads_any h0.out hL1.out iv.out hN hn hk 2 cN hcH hcX hcY aE hH aY
    rw [hoM] at cM
    rw [hoM] at le
    rw [Nat.mul_comm 3 k] at cM
    replace cM := hid1 cM
    replace hoM := hid1 hoM
    replace le := hid1 le
    have cWr := fun w => writes_any 2 w
    have cWk := fun w => walk_any 2 w
    rw [show (decide (((2 : Int)) = 3) || decide (((2 : Int)) = 4) || decide (((2 : Int)) = 5)) = false from rfl] at cWr
    rw [show (decide (((2 : Int)) = 9) || decide (((2 : Int)) = 10)) = false from rfl] at cWk
    go_enter Try.func38, Try.ntmps38
    go_upto_region 1 with fail
    rw [hw1.out]
    clear hw1
    generalize World.alloc _ _ = w1 at *
    generalize hbc : w.heap.size = bq at hq ha ⊢
    replace hbc := hid1 hbc
    obtain ⟨q0, q1, q2, q3, q4⟩ := call_cells hq
    obtain ⟨a0, a1, a2⟩ := ans_cells ha
    go_wp2_with (first
      | (go_at_call 51; with_reducible refine cH0.out.mono ?_; rintro r w2 ⟨rfl, rfl⟩)
      | (go_at_call 53; with_reducible refine cM.out.mono ?_; rintro r w3 ⟨rfl, h3, c3⟩; replace h3 := hid1 h3)
      | (go_at_call 54; with_reducible refine (cWr _).mono ?_; rintro r w4 ⟨rfl, rfl⟩) | (go_at_call 59; with_reducible refine (cWk _).mono ?_; rintro r w4 ⟨rfl, rfl⟩))
    go_ret
    obtain ⟨m3, h3⟩ := h3.out
    exact ⟨by rw [← hoz.out, le.out]; rfl, ⟨m3, by rw [← hoz.out, le.out]; exact h3.up (fun i q => Lup.under bel q)⟩, (Chg.of_below bel).trans (c3.widen bel)⟩
  by_cases kk3 : kd = 3
  · subst kk3
    have le : kdO C X k 3 cN cH cX cY aE aH aY = wrO X k 3 cN cH cX cY aE aH aY := by unfold kdO; simp
    obtain ⟨oM, hoM⟩ : ∃ o, wrO X k 3 cN cH cX cY aE aH aY = o := ⟨_, rfl⟩
    have cM := writes_3 h0.out hL1.out iv.out hN hn hk cN hcH hcX hcY aE hH aY
    rw [hoM] at cM
    rw [hoM] at le
    rw [Nat.mul_comm 3 k] at cM
    replace cM := hid1 cM
    replace hoM := hid1 hoM
    replace le := hid1 le
    have cWr := fun w => writes_any 3 w
    have cWk := fun w => walk_any 3 w
    rw [show (decide (((3 : Int)) = 3) || decide (((3 : Int)) = 4) || decide (((3 : Int)) = 5)) = true from rfl] at cWr
    rw [show (decide (((3 : Int)) = 9) || decide (((3 : Int)) = 10)) = false from rfl] at cWk
    go_enter Try.func38, Try.ntmps38
    go_upto_region 1 with fail
    rw [hw1.out]
    clear hw1
    generalize World.alloc _ _ = w1 at *
    generalize hbc : w.heap.size = bq at hq ha ⊢
    replace hbc := hid1 hbc
    obtain ⟨q0, q1, q2, q3, q4⟩ := call_cells hq
    obtain ⟨a0, a1, a2⟩ := ans_cells ha
    go_wp2_with (first
      | (go_at_call 51; with_reducible refine cH0.out.mono ?_; rintro r w2 ⟨rfl, rfl⟩)
      | (go_at_call 55; with_reducible refine cM.out.mono ?_; rintro r w3 ⟨rfl, h3, c3⟩; replace h3 := hid1 h3)
      | (go_at_call 54; with_reducible refine (cWr _).mono ?_; rintro r w4 ⟨rfl, rfl⟩) | (go_at_call 59; with_reducible refine (cWk _).mono ?_; rintro r w4 ⟨rfl, rfl⟩))
    go_ret
    obtain ⟨m3, h3⟩ := h3.out
    exact ⟨by rw [← hoz.out, le.out]; rfl, ⟨m3, by rw [← hoz.out, le.out]; exact h3.up (fun i q => Lup.under bel q)⟩, (Chg.of_below bel).trans (c3.widen bel)⟩
  by_cases kk4 : kd = 4
  · subst kk4
    have le : kdO C X k 4 cN cH cX cY aE aH aY = wrO X k 4 cN cH cX cY aE aH aY := by unfold kdO; simp
    obtain ⟨oM, hoM⟩ : ∃ o, wrO X k 4 cN cH cX cY aE aH aY = o := ⟨_, rfl⟩
    have cM := writes_4 h0.out hL1.out iv.out hN hn hk cN hcH hcX hcY aE hH aY
    rw [hoM] at cM
    rw [hoM] at le
    rw [Nat.mul_comm 3 k] at cM
    replace cM := hid1 cM
    replace hoM := hid1 hoM
    replace le := hid1 le
    have cWr := fun w => writes_any 4 w
    have cWk := fun w => walk_any 4 w
    rw [show (decide (((4 : Int)) = 3) || decide (((4 : Int)) = 4) || decide (((4 : Int)) = 5)) = true from rfl] at cWr
    rw [show (decide (((4 : Int)) = 9) || decide (((4 : Int)) = 10)) = false from rfl] at cWk
    go_enter Try.func38, Try.ntmps38
    go_upto_region 1 with fail
    rw [hw1.out]
    clear hw1
    generalize World.alloc _ _ = w1 at *
    generalize hbc : w.heap.size = bq at hq ha ⊢
    replace hbc := hid1 hbc
    obtain ⟨q0, q1, q2, q3, q4⟩ := call_cells hq
    obtain ⟨a0, a1, a2⟩ := ans_cells ha
    go_wp2_with (first
      | (go_at_call 51; with_reducible refine cH0.out.mono ?_; rintro r w2 ⟨rfl, rfl⟩)
      | (go_at_call 55; with_reducible refine cM.out.mono ?_; rintro r w3 ⟨rfl, h3, c3⟩; replace h3 := hid1 h3)
      | (go_at_call 54; with_reducible refine (cWr _).mono ?_; rintro r w4 ⟨rfl, rfl⟩) | (go_at_call 59; with_reducible refine (cWk _).mono ?_; rintro r w4 ⟨rfl, rfl⟩))
    go_ret
    obtain ⟨m3, h3⟩ := h3.out
    exact ⟨by rw [← hoz.out, le.out]; rfl, ⟨m3, by rw [← hoz.out, le.out]; exact h3.up (fun i q => Lup.under bel q)⟩, (Chg.of_below bel).trans (c3.widen bel)⟩
  by_cases kk5 : kd = 5
  · subst kk5
    have le : kdO C X k 5 cN cH cX cY aE aH aY = wrO X k 5 cN cH cX cY aE aH aY := by unfold kdO; simp
    obtain ⟨oM, hoM⟩ : ∃ o, wrO X k 5 cN cH cX cY aE aH aY = o := ⟨_, rfl⟩
    have cM := writes_5 h0.out hL1.out iv.out hN hn hk cN hcH hcX hcY aE hH aY
    rw [hoM] at cM
    rw [hoM] at le
    rw [Nat.mul_comm 3 k] at cM
    replace cM := hid1 cM
    replace hoM := hid1 hoM
    replace le := hid1 le
    have cWr := fun w => writes_any 5 w
    have cWk := fun w => walk_any 5 w
    rw [show (decide (((5 : Int)) = 3) || decide (((5 : Int)) = 4) || decide (((5 : Int)) = 5)) = true from rfl] at cWr
    rw [show (decide (((5 : Int)) = 9) || decide (((5 : Int)) = 10)) = false from rfl] at cWk
    go_enter Try.func38, Try.ntmps38
    go_upto_region 1 with fail
    rw [hw1.out]
    clear hw1
    generalize World.alloc _ _ = w1 at *
    generalize hbc : w.heap.size = bq at hq ha ⊢
    replace hbc := hid1 hbc
    obtain ⟨q0, q1, q2, q3, q4⟩ := call_cells hq
    obtain ⟨a0, a1, a2⟩ := ans_cells ha
    go_wp2_with (first
      | (go_at_call 51; with_reducible refine cH0.out.mono ?_; rintro r w2 ⟨rfl, rfl⟩)
      | (go_at_call 55; with_reducible refine cM.out.mono ?_; rintro r w3 ⟨rfl, h3, c3⟩; replace h3 := hid1 h3)
      | (go_at_call 54; with_reducible refine (cWr _).mono ?_; rintro r w4 ⟨rfl, rfl⟩) | (go_at_call 59; with_reducible refine (cWk _).mono ?_; rintro r w4 ⟨rfl, rfl⟩))
    go_ret
    obtain ⟨m3, h3⟩ := h3.out
    exact ⟨by rw [← hoz.out, le.out]; rfl, ⟨m3, by rw [← hoz.out, le.out]; exact h3.up (fun i q => Lup.under bel q)⟩, (Chg.of_below bel).trans (c3.widen bel)⟩
  by_cases kk6 : kd = 6
  · subst kk6
    have le : kdO C X k 6 cN cH cX cY aE aH aY = rlO X k cH aE aH aY := by unfold kdO; simp
    obtain ⟨oM, hoM⟩ : ∃ o, rlO X k cH aE aH aY = o := ⟨_, rfl⟩
    have cM := releases_any h0.out hL1.out iv.out hN hn hk 6 cN hcH hcX hcY aE hH aY
    rw [hoM] at cM
    rw [hoM] at le
    rw [Nat.mul_comm 3 k] at cM
    replace cM := hid1 cM
    replace hoM := hid1 hoM
    replace le := hid1 le
    have cWr := fun w => writes_any 6 w
    have cWk := fun w => walk_any 6 w
    rw [show (decide (((6 : Int)) = 3) || decide (((6 : Int)) = 4) || decide (((6 : Int)) = 5)) = false from rfl] at cWr
    rw [show (decide (((6 : Int)) = 9) || decide (((6 : Int)) = 10)) = false from rfl] at cWk
    go_enter Try.func38, Try.ntmps38
    go_upto_region 1 with fail
    rw [hw1.out]
    clear hw1
    generalize World.alloc _ _ = w1 at *
    generalize hbc : w.heap.size = bq at hq ha ⊢
    replace hbc := hid1 hbc
    obtain ⟨q0, q1, q2, q3, q4⟩ := call_cells hq
    obtain ⟨a0, a1, a2⟩ := ans_cells ha
    go_wp2_with (first
      | (go_at_call 51; with_reducible refine cH0.out.mono ?_; rintro r w2 ⟨rfl, rfl⟩)
      | (go_at_call 56; with_reducible refine cM.out.mono ?_; rintro r w3 ⟨rfl, h3, c3⟩; replace h3 := hid1 h3)
      | (go_at_call 54; with_reducible refine (cWr _).mono ?_; rintro r w4 ⟨rfl, rfl⟩) | (go_at_call 59; with_reducible refine (cWk _).mono ?_; rintro r w4 ⟨rfl, rfl⟩))
    go_ret
    obtain ⟨m3, h3⟩ := h3.out
    exact ⟨by rw [← hoz.out, le.out]; rfl, ⟨m3, by rw [← hoz.out, le.out]; exact h3.up (fun i q => Lup.under bel q)⟩, (Chg.of_below bel).trans (c3.widen bel)⟩
  by_cases kk7 : kd = 7
  · subst kk7
    have le : kdO C X k 7 cN cH cX cY aE aH aY = cpO X k cH cX aE aH aY := by unfold kdO; simp
    obtain ⟨oM, hoM⟩ : ∃ o, cpO X k cH cX aE aH aY = o := ⟨_, rfl⟩
    have cM := compares_any h0.out hL1.out iv.out hN hn hk 7 cN hcH hcX hcY aE hH aY
    rw [hoM] at cM
    rw [hoM] at le
    rw [Nat.mul_comm 3 k] at cM
    replace cM := hid1 cM
    replace hoM := hid1 hoM
    replace le := hid1 le
    have cWr := fun w => writes_any 7 w
    have cWk := fun w => walk_any 7 w
    rw [show (decide (((7 : Int)) = 3) || decide (((7 : Int)) = 4) || decide (((7 : Int)) = 5)) = false from rfl] at cWr
    rw [show (decide (((7 : Int)) = 9) || decide (((7 : Int)) = 10)) = false from rfl] at cWk
    go_enter Try.func38, Try.ntmps38
    go_upto_region 1 with fail
    rw [hw1.out]
    clear hw1
    generalize World.alloc _ _ = w1 at *
    generalize hbc : w.heap.size = bq at hq ha ⊢
    replace hbc := hid1 hbc
    obtain ⟨q0, q1, q2, q3, q4⟩ := call_cells hq
    obtain ⟨a0, a1, a2⟩ := ans_cells ha
    go_wp2_with (first
      | (go_at_call 51; with_reducible refine cH0.out.mono ?_; rintro r w2 ⟨rfl, rfl⟩)
      | (go_at_call 57; with_reducible refine cM.out.mono ?_; rintro r w3 ⟨rfl, h3, c3⟩; replace h3 := hid1 h3)
      | (go_at_call 54; with_reducible refine (cWr _).mono ?_; rintro r w4 ⟨rfl, rfl⟩) | (go_at_call 59; with_reducible refine (cWk _).mono ?_; rintro r w4 ⟨rfl, rfl⟩))
    go_ret
    obtain ⟨m3, h3⟩ := h3.out
    exact ⟨by rw [← hoz.out, le.out]; rfl, ⟨m3, by rw [← hoz.out, le.out]; exact h3.up (fun i q => Lup.under bel q)⟩, (Chg.of_below bel).trans (c3.widen bel)⟩
  by_cases kk8 : kd = 8
  · subst kk8
    have le : kdO C X k 8 cN cH cX cY aE aH aY = opO X k cH aE aH aY := by unfold kdO; simp
    obtain ⟨oM, hoM⟩ : ∃ o, opO X k cH aE aH aY = o := ⟨_, rfl⟩
    have cM := opens_any h0.out hL1.out iv.out hN hn hk 8 cN hcH hcX hcY aE hH aY
    rw [hoM] at cM
    rw [hoM] at le
    rw [Nat.mul_comm 3 k] at cM
    replace cM := hid1 cM
    replace hoM := hid1 hoM
    replace le := hid1 le
    have cWr := fun w => writes_any 8 w
    have cWk := fun w => walk_any 8 w
    rw [show (decide (((8 : Int)) = 3) || decide (((8 : Int)) = 4) || decide (((8 : Int)) = 5)) = false from rfl] at cWr
    rw [show (decide (((8 : Int)) = 9) || decide (((8 : Int)) = 10)) = false from rfl] at cWk
    go_enter Try.func38, Try.ntmps38
    go_upto_region 1 with fail
    rw [hw1.out]
    clear hw1
    generalize World.alloc _ _ = w1 at *
    generalize hbc : w.heap.size = bq at hq ha ⊢
    replace hbc := hid1 hbc
    obtain ⟨q0, q1, q2, q3, q4⟩ := call_cells hq
    obtain ⟨a0, a1, a2⟩ := ans_cells ha
    go_wp2_with (first
      | (go_at_call 51; with_reducible refine cH0.out.mono ?_; rintro r w2 ⟨rfl, rfl⟩)
      | (go_at_call 58; with_reducible refine cM.out.mono ?_; rintro r w3 ⟨rfl, h3, c3⟩; replace h3 := hid1 h3)
      | (go_at_call 54; with_reducible refine (cWr _).mono ?_; rintro r w4 ⟨rfl, rfl⟩) | (go_at_call 59; with_reducible refine (cWk _).mono ?_; rintro r w4 ⟨rfl, rfl⟩))
    go_ret
    obtain ⟨m3, h3⟩ := h3.out
    exact ⟨by rw [← hoz.out, le.out]; rfl, ⟨m3, by rw [← hoz.out, le.out]; exact h3.up (fun i q => Lup.under bel q)⟩, (Chg.of_below bel).trans (c3.widen bel)⟩
  by_cases kk9 : kd = 9
  · subst kk9
    have le : kdO C X k 9 cN cH cX cY aE aH aY = nxO C X k 9 cH aE aH aY := by unfold kdO; simp
    obtain ⟨oM, hoM⟩ : ∃ o, nxO C X k 9 cH aE aH aY = o := ⟨_, rfl⟩
    have cM := goesOn_any h0.out hL1.out iv.out hN hn hk 9 cN hcH hcX hcY aE hH aY (.inl rfl)
    rw [hoM] at cM
    rw [hoM] at le
    rw [Nat.mul_comm 3 k] at cM
    replace cM := hid1 cM
    replace hoM := hid1 hoM
    replace le := hid1 le
    have cWr := fun w => writes_any 9 w
    have cWk := fun w => walk_any 9 w
    rw [show (decide (((9 : Int)) = 3) || decide (((9 : Int)) = 4) || decide (((9 : Int)) = 5)) = false from rfl] at cWr
    rw [show (decide (((9 : Int)) = 9) || decide (((9 : Int)) = 10)) = true from rfl] at cWk
    go_enter Try.func38, Try.ntmps38
    go_upto_region 1 with fail
    rw [hw1.out]
    clear hw1
    generalize World.alloc _ _ = w1 at *
    generalize hbc : w.heap.size = bq at hq ha ⊢
    replace hbc := hid1 hbc
    obtain ⟨q0, q1, q2, q3, q4⟩ := call_cells hq
    obtain ⟨a0, a1, a2⟩ := ans_cells ha
    go_wp2_with (first
      | (go_at_call 51; with_reducible refine cH0.out.mono ?_; rintro r w2 ⟨rfl, rfl⟩)
      | (go_at_call 60; with_reducible refine cM.out.mono ?_; rintro r w3 ⟨rfl, h3, c3⟩; replace h3 := hid1 h3)
      | (go_at_call 54; with_reducible refine (cWr _).mono ?_; rintro r w4 ⟨rfl, rfl⟩) | (go_at_call 59; with_reducible refine (cWk _).mono ?_; rintro r w4 ⟨rfl, rfl⟩))
    go_ret
    obtain ⟨m3, h3⟩ := h3.out
    exact ⟨by rw [← hoz.out, le.out]; rfl, ⟨m3, by rw [← hoz.out, le.out]; exact h3.up (fun i q => Lup.under bel q)⟩, (Chg.of_below bel).trans (c3.widen bel)⟩
  by_cases kk10 : kd = 10
  · subst kk10
    have le : kdO C X k 10 cN cH cX cY aE aH aY = nxO C X k 10 cH aE aH aY := by unfold kdO; simp
    obtain ⟨oM, hoM⟩ : ∃ o, nxO C X k 10 cH aE aH aY = o := ⟨_, rfl⟩
    have cM := goesOn_any h0.out hL1.out iv.out hN hn hk 10 cN hcH hcX hcY aE hH aY (.inr rfl)
    rw [hoM] at cM
    rw [hoM] at le
    rw [Nat.mul_comm 3 k] at cM
    replace cM := hid1 cM
    replace hoM := hid1 hoM
    replace le := hid1 le
    have cWr := fun w => writes_any 10 w
    have cWk := fun w => walk_any 10 w
    rw [show (decide (((10 : Int)) = 3) || decide (((10 : Int)) = 4) || decide (((10 : Int)) = 5)) = false from rfl] at cWr
    rw [show (decide (((10 : Int)) = 9) || decide (((10 : Int)) = 10)) = true from rfl] at cWk
    go_enter Try.func38, Try.ntmps38
    go_upto_region 1 with fail
    rw [hw1.out]
    clear hw1
    generalize World.alloc _ _ = w1 at *
    generalize hbc : w.heap.size = bq at hq ha ⊢
    replace hbc := hid1 hbc
    obtain ⟨q0, q1, q2, q3, q4⟩ := call_cells hq
    obtain ⟨a0, a1, a2⟩ := ans_cells ha
    go_wp2_with (first
      | (go_at_call 51; with_reducible refine cH0.out.mono ?_; rintro r w2 ⟨rfl, rfl⟩)
      | (go_at_call 60; with_reducible refine cM.out.mono ?_; rintro r w3 ⟨rfl, h3, c3⟩; replace h3 := hid1 h3)
      | (go_at_call 54; with_reducible refine (cWr _).mono ?_; rintro r w4 ⟨rfl, rfl⟩) | (go_at_call 59; with_reducible refine (cWk _).mono ?_; rintro r w4 ⟨rfl, rfl⟩))
    go_ret
    obtain ⟨m3, h3⟩ := h3.out
    exact ⟨by rw [← hoz.out, le.out]; rfl, ⟨m3, by rw [← hoz.out, le.out]; exact h3.up (fun i q => Lup.under bel q)⟩, (Chg.of_below bel).trans (c3.widen bel)⟩
  have le : kdO C X k kd cN cH cX cY aE aH aY = refO X (sameA aE aH aY 8 0 false) := by unfold kdO; rw [if_neg kk1, if_neg kk2, if_neg (by intro z; rcases z with z | z | z; exact kk3 z; exact kk4 z; exact kk5 z), if_neg kk6, if_neg kk7, if_neg kk8, if_neg (by intro z; rcases z with z | z; exact kk9 z; exact kk10 z)]
  replace le := hid1 le
  have cWr := fun w => writes_any kd w
  have cWk := fun w => walk_any kd w
  rw [decide_eq_false kk3, decide_eq_false kk4, decide_eq_false kk5] at cWr
  rw [decide_eq_false kk9, decide_eq_false kk10] at cWk
  simp only [Bool.or_false] at cWr cWk
  have f1 : (kd == 1) = false := by simp [kk1]
  have f2 : (kd == 2) = false := by simp [kk2]
  have f6 : (kd == 6) = false := by simp [kk6]
  have f7 : (kd == 7) = false := by simp [kk7]
  have f8 : (kd == 8) = false := by simp [kk8]
  clear kk1 kk2 kk3 kk4 kk5 kk6 kk7 kk8 kk9 kk10
  go_enter Try.func38, Try.ntmps38
  go_upto_region 1 with fail
  rw [hw1.out]
  clear hw1
  generalize World.alloc _ _ = w1 at *
  generalize hbc : w.heap.size = bq at hq ha ⊢
  replace hbc := hid1 hbc
  obtain ⟨q0, q1, q2, q3, q4⟩ := call_cells hq
  obtain ⟨a0, a1, a2⟩ := ans_cells ha
  have HA := hid1 (fun (w' : World) (b : Below w1.heap.size w1 w') => (b.block _ (lt_of_block ha)).trans ha)
  have HM := hid1 (fun (w' : World) (b : Below w1.heap.size w1 w') => h0.out.below b)
  go_upto_region 18 with (first
    | (go_at_call 51; with_reducible refine cH0.out.mono ?_; rintro r w2 ⟨rfl, rfl⟩)
    | (go_at_call 54; with_reducible refine (cWr _).mono ?_; rintro r w4 ⟨rfl, rfl⟩) | (go_at_call 59; with_reducible refine (cWk _).mono ?_; rintro r w4 ⟨rfl, rfl⟩))
  have bi := Below.refl w1.heap.size w1
  refine region_below (by kernel_rfl) (by kernel_rfl) ?_
  repeat (first | go_big_quiet_skip | (go_big_quiet_want; go_big_quiet_op; first | go_big_quiet_on | (refine ⟨_, fun _ _ => rfl, ?_⟩; go_big_quiet_on) | (refine ⟨.agg #[.int .i64 aE, .int .u64 (aH : Nat), .bool aY], ?_, ?_⟩; (focus (intro w' hw'; obtain ⟨a0, a1, a2⟩ := ans_cells (HA.out w' (seq_below bi hw')); simp [a0, a1, a2, Result.andThen]; done)); go_big_quiet_on) | (with_reducible refine ⟨_, (fun w' hw' => (refusal_any 8 w').mono fun _ _ ⟨he, hb⟩ => ⟨he, seq_below hw' hb⟩), ?_⟩; go_big_quiet_on) | (refine ⟨.bool (sameA aE aH aY 8 0 false), ?_, ?_⟩; (focus (intro w' hw'; unfold sameA; by_cases g1 : aE = 8 <;> by_cases g2 : aH = 0 <;> cases aY <;> simp [g1, g2, Result.andThen]; done)); go_big_quiet_on)))
  refine wpQuiet_nil ?_
  intro w8 hb8
  replace bi := seq_below bi hb8
  clear hb8
  go_wp2
  go_ret
  exact ⟨by rw [← hoz.out, le.out, refO_some]; rfl, ⟨m, by rw [← hoz.out, le.out, refO_get]; exact ((HM.out _ bi).up (fun i q => .inl q)).more (by omega)⟩, Chg.of_below (seq_below bel bi)⟩
set_option maxHeartbeats 2000000 in
theorem does_any {w : World} {B : Nat} {L : Nat → Prop} {C : Cg} {n : Nat} {X : Sx} {m : Md} (h : MdOk w B L C n X m) (hL : ∀ i, L i → i < w.heap.size) {N : Nat} (iv : X.Inv N) (hN : N < 1000000) (hn : n < 1000000) (hCa : C.a ≤ 8) (who kd cN : Int) {cH cX cY : Nat} (hcH : cH < 18446744073709551616) (hcX : cX < 18446744073709551616) (hcY : cY < 18446744073709551616) (aE : Int) {aH : Nat} (hH : aH < 18446744073709551616) (aY : Bool) :
    Calls Try.prog 38 #[.pointer (some ⟨B, 0, none⟩), .int .i64 who, .agg #[.int .i64 kd, .int .i64 cN, .int .u64 (cH : Nat), .int .u64 (cX : Nat), .int .u64 (cY : Nat)], .agg #[.int .i64 aE, .int .u64 (aH : Nat), .bool aY]] w fun r w' => r = .returned (.bool (dsO C X who kd cN cH cX cY aE aH aY).isSome) ∧ (∃ m', MdOk w' B (Lup L w w') C (n + 2) ((dsO C X who kd cN cH cX cY aE aH aY).getD X) m') ∧ Chg L w w' := by
  by_cases hr : 0 ≤ who ∧ who < (C.c : Nat)
  · obtain ⟨k, rfl⟩ := Int.eq_ofNat_of_zero_le hr.1
    have hk : k < C.c := by have := hr.2; omega
    have e : dsO C X (k : Nat) kd cN cH cX cY aE aH aY = kdO C X k kd cN cH cX cY aE aH aY := by unfold dsO; rw [if_pos hr, Int.toNat_natCast]
    rw [e]
    exact does_k h hL iv hN hn hCa hk kd cN hcH hcX hcY aE hH aY
  have e : dsO C X who kd cN cH cX cY aE aH aY = none := by unfold dsO; rw [if_neg hr]
  rw [e]
  have b1 := alloc_below w (.cells #[.int .i64 kd, .int .i64 cN, .int .u64 (cH : Nat), .int .u64 (cX : Nat), .int .u64 (cY : Nat)] 41)
  have b2 := alloc_below (w.alloc (.cells #[.int .i64 kd, .int .i64 cN, .int .u64 (cH : Nat), .int .u64 (cX : Nat), .int .u64 (cY : Nat)] 41)) (.cells #[.int .i64 aE, .int .u64 (aH : Nat), .bool aY] 39)
  have bel := seq_below b1 b2
  have h2 := hid1 (h.below bel)
  have cH := has_any (h.below bel) who
  rw [has_no hr] at cH
  replace cH := hid1 cH
  clear h e hr b1 b2 iv
  go_enter Try.func38, Try.ntmps38
  go_wp2_with (go_at_call 51; with_reducible refine cH.out.mono ?_; rintro r w2 ⟨rfl, rfl⟩)
  go_ret
  exact ⟨rfl, ⟨m, (h2.out.up (fun i q => .inl q)).more (by omega)⟩, Chg.of_below bel⟩
end Go.Proofs.Ytecppcakgfohbab
