/- Release, Same. -/
import Derived.Test.YtecppcakgfohbabNH
namespace Go.Proofs.Ytecppcakgfohbab
open Go.RowKit
set_option linter.unusedSimpArgs false
set_option linter.unusedVariables false

set_option maxRecDepth 100000 in
set_option maxHeartbeats 8000000 in
theorem releases_any {w : World} {B : Nat} {L : Nat → Prop} {C : Cg} {n : Nat} {X : Sx} {m : Md} (h : MdOk w B L C n X m) (hL : ∀ i, L i → i < w.heap.size) {N : Nat} (iv : X.Inv N) (hN : N < 1000000) (hn : n < 1000000) {k : Nat} (hk : k < C.c) (kd cN : Int) {cH cX cY : Nat} (hcH : cH < 18446744073709551616) (hcX : cX < 18446744073709551616) (hcY : cY < 18446744073709551616) (aE : Int) {aH : Nat} (hH : aH < 18446744073709551616) (aY : Bool) :
    Calls Try.prog 56 #[.pointer (some ⟨m.Bc, 3 * k, none⟩), .agg #[.int .i64 kd, .int .i64 cN, .int .u64 (cH : Nat), .int .u64 (cX : Nat), .int .u64 (cY : Nat)], .agg #[.int .i64 aE, .int .u64 (aH : Nat), .bool aY]] w fun r w' => r = .returned (.bool (rlO X k cH aE aH aY).isSome) ∧ (∃ m', MdOk w' B (Lup L w w') C (n + 2) ((rlO X k cH aE aH aY).getD X) m') ∧ Chg L w w' := by
  obtain ⟨oz, hoz⟩ : ∃ oz, rlO X k cH aE aH aY = oz := ⟨_, rfl⟩
  rw [hoz]
  replace hoz := hid1 hoz
  have hq := new_obj w (.cells #[.int .i64 kd, .int .i64 cN, .int .u64 (cH : Nat), .int .u64 (cX : Nat), .int .u64 (cY : Nat)] 41)
  have b1 := alloc_below w (.cells #[.int .i64 kd, .int .i64 cN, .int .u64 (cH : Nat), .int .u64 (cX : Nat), .int .u64 (cY : Nat)] 41)
  have e1 : (w.alloc (.cells #[.int .i64 kd, .int .i64 cN, .int .u64 (cH : Nat), .int .u64 (cX : Nat), .int .u64 (cY : Nat)] 41)).heap.size = w.heap.size + 1 := by simp
  generalize hw1 : w.alloc (.cells #[.int .i64 kd, .int .i64 cN, .int .u64 (cH : Nat), .int .u64 (cX : Nat), .int .u64 (cY : Nat)] 41) = w0 at hq b1 e1
  have ha := new_obj w0 (.cells #[.int .i64 aE, .int .u64 (aH : Nat), .bool aY] 39)
  have b2 := alloc_below w0 (.cells #[.int .i64 aE, .int .u64 (aH : Nat), .bool aY] 39)
  replace hq := (b2.block _ (lt_of_block hq)).trans hq
  rw [e1] at ha
  have bel := seq_below b1 b2
  replace hw1 := hid1 hw1
  clear b1 b2 e1
  replace h := h.below bel
  have HM := hid1 (fun (w' : World) (b : Below (w0.alloc (.cells #[.int .i64 aE, .int .u64 (aH : Nat), .bool aY] 39)).heap.size (w0.alloc (.cells #[.int .i64 aE, .int .u64 (aH : Nat), .bool aY] 39)) w') => h.below b)
  have HK := hid1 (fun (w' : World) (b : Below (w0.alloc (.cells #[.int .i64 aE, .int .u64 (aH : Nat), .bool aY] 39)).heap.size (w0.alloc (.cells #[.int .i64 aE, .int .u64 (aH : Nat), .bool aY] 39)) w') => (h.below b).cq hk)
  have hp := hid1 (nodeF_lt iv.ok (k : Int))
  obtain ⟨o, ho⟩ : ∃ o, 3 * k = o := ⟨_, rfl⟩
  rw [ho] at HK ⊢
  replace ho := hid1 ho
  replace hk := hid1 hk
  replace hL := hid1 hL
  replace iv := hid1 iv
  clear h
  go_enter Try.func56, Try.ntmps56
  go_upto_region 1 with fail
  rw [hw1.out]
  clear hw1
  generalize World.alloc _ _ = w1 at *
  generalize hbc : w.heap.size = bq at hq ha ⊢
  replace hbc := hid1 hbc
  have hba := hid1 (show bq + 1 = bq + 1 from rfl)
  obtain ⟨ba, hba⟩ : ∃ ba, bq + 1 = ba := ⟨_, rfl⟩
  rw [hba] at ha ⊢
  replace hba := hid1 hba
  have HQ := hid1 (fun (w' : World) (b : Below w1.heap.size w1 w') => (b.block _ (lt_of_block hq)).trans hq)
  have HA := hid1 (fun (w' : World) (b : Below w1.heap.size w1 w') => (b.block _ (lt_of_block ha)).trans ha)
  have bi := Below.refl w1.heap.size w1
  obtain ⟨p1, hp1⟩ : ∃ p, nodeF (k : Int) cH X.H = p := ⟨_, rfl⟩
  have lk1 := hid1 (fun (w' : World) (b : Below w1.heap.size w1 w') => ((HK.out w' b).hd.look hcH))
  rw [hp1] at lk1
  by_cases g1 : 0 ≤ p1
  · rw [if_pos g1, decide_eq_true g1] at lk1
    refine region_below (by kernel_rfl) (by kernel_rfl) ?_
    repeat (first | go_big_quiet_skip | (go_big_quiet_want; go_big_quiet_op; first | go_big_quiet_on | (refine ⟨_, fun _ _ => rfl, ?_⟩; go_big_quiet_on) | (refine ⟨.map (some (m.bk k)), ?_, ?_⟩; (focus (intro w' hw'; have ck := HK.out w' (seq_below bi hw'); have y0 := ck.y0; have y1 := ck.y1; have y2 := ck.y2; simp [y0, Result.andThen]; done)); go_big_quiet_on) | (refine ⟨.int .u64 (cH : Nat), ?_, ?_⟩; (focus (intro w' hw'; obtain ⟨q0, q1, q2, q3, q4⟩ := call_cells (HQ.out w' (seq_below bi hw')); simp [q2, Result.andThen]; done)); go_big_quiet_on) | (refine ⟨.tuple #[.int .i64 p1, .bool true], ?_, ?_⟩; (focus (intro w' hw'; have lk := lk1.out w' (seq_below bi hw'); first | (simp [lk, Result.andThen]; done) | exact lk; done)); go_big_quiet_on)))
    refine wpQuiet_nil ?_
    intro w8 hb8
    replace bi := seq_below bi hb8
    clear hb8
    obtain ⟨a0, a1, a2⟩ := ans_cells (HA.out _ bi)
    by_cases gE : aE = 0
    · have f1 : (aE == 0) = true := by simp [gE]
      by_cases gH : aH = 0
      · have f2 : ((aH : Int) == 0) = true := by simp [gH]
        cases aY with
        | true =>
          have sA : sameA aE aH true 0 0 false = false := by unfold sameA; simp
          replace gE := hid1 gE
          replace gH := hid1 gH
          have le : rlO X k cH aE aH true = none := by unfold rlO; rw [hp1, if_neg (by omega), sA]; rfl
          go_wp2
          go_ret
          exact ⟨by rw [← hoz.out, le]; rfl, ⟨m, by rw [← hoz.out, le]; exact ((HM.out _ bi).up (fun i q => .inl q)).more (by omega)⟩, Chg.of_below (seq_below bel bi)⟩
        | false =>
          have sA : sameA aE aH false 0 0 false = true := by unfold sameA; simp [gE, gH]
          replace gE := hid1 gE
          replace gH := hid1 gH
          have le : rlO X k cH aE aH false = some { X with H := dropF k cH X.H } := by unfold rlO; rw [hp1, if_neg (by omega), sA]; rfl
          go_upto_region 6 with fail
          have h3 := (HM.out _ bi).below (Below.refl _ _).drew
          have ck := h3.cq hk.out
          obtain ⟨w4, hr, hd, gr⟩ := ck.hd.del hcH iv.out.nd (by rw [hp1]; exact g1) 0
          have h4 := h3.holds (Nat.le_refl _) hk.out hd gr (drop_others iv.out.nd (by rw [hp1]; exact g1))
          have hq3 := HQ.out _ bi.drew
          have hq4 := (gr.block bq (lt_of_block hq3) (fun e => ne_map hq3 ck.hd.map (Option.some.inj e))).trans hq3
          have c4 : Chg L w w4 := (Chg.of_below (seq_below bel bi)).drew.grown gr (fun x hx => .inl (by obtain rfl := Option.some.inj hx; exact h3.Lbk hk.out))
          have s3 := And.intro ck.y0 (call_cells hq3).2.2.1
          have s4 := And.intro (h4.cq hk.out).y0 (call_cells hq4).2.2.1
          rw [ho.out] at s3 s4
          clear gr hd ck h3 a0 a1 a2 hq3 hq4
          replace h4 := hid1 h4
          replace hp1 := hid1 hp1
          go_region_held (fun wr => wr.cell? ⟨m.Bc, o, none⟩ = some (.map (some (m.bk k))) ∧ wr.cell? ⟨bq, 2, none⟩ = some (.int .u64 (cH : Nat))) (first | with_reducible exact s3 | with_reducible exact s4) (fail)
          all_goals
            go_wp2
            go_ret
            exact ⟨by rw [← hoz.out, le]; rfl, ⟨m, by rw [← hoz.out, le]; exact (h4.out.up (fun i q => .inl q)).more (by omega)⟩, c4⟩
      · have f2 : ((aH : Int) == 0) = false := by simp; omega
        have sA : sameA aE aH aY 0 0 false = false := by unfold sameA; simp [gH]
        replace gE := hid1 gE
        replace gH := hid1 gH
        have le : rlO X k cH aE aH aY = none := by unfold rlO; rw [hp1, if_neg (by omega), sA]; rfl
        go_wp2
        go_ret
        exact ⟨by rw [← hoz.out, le]; rfl, ⟨m, by rw [← hoz.out, le]; exact ((HM.out _ bi).up (fun i q => .inl q)).more (by omega)⟩, Chg.of_below (seq_below bel bi)⟩
    · have f1 : (aE == 0) = false := by simp [gE]
      have sA : sameA aE aH aY 0 0 false = false := by unfold sameA; simp [gE]
      replace gE := hid1 gE
      have le : rlO X k cH aE aH aY = none := by unfold rlO; rw [hp1, if_neg (by omega), sA]; rfl
      go_wp2
      go_ret
      exact ⟨by rw [← hoz.out, le]; rfl, ⟨m, by rw [← hoz.out, le]; exact ((HM.out _ bi).up (fun i q => .inl q)).more (by omega)⟩, Chg.of_below (seq_below bel bi)⟩
  · rw [if_neg g1, decide_eq_false g1] at lk1
    refine region_below (by kernel_rfl) (by kernel_rfl) ?_
    repeat (first | go_big_quiet_skip | (go_big_quiet_want; go_big_quiet_op; first | go_big_quiet_on | (refine ⟨_, fun _ _ => rfl, ?_⟩; go_big_quiet_on) | (refine ⟨.map (some (m.bk k)), ?_, ?_⟩; (focus (intro w' hw'; have ck := HK.out w' (seq_below bi hw'); have y0 := ck.y0; have y1 := ck.y1; have y2 := ck.y2; simp [y0, Result.andThen]; done)); go_big_quiet_on) | (refine ⟨.int .u64 (cH : Nat), ?_, ?_⟩; (focus (intro w' hw'; obtain ⟨q0, q1, q2, q3, q4⟩ := call_cells (HQ.out w' (seq_below bi hw')); simp [q2, Result.andThen]; done)); go_big_quiet_on) | (refine ⟨.tuple #[.int .i64 0, .bool false], ?_, ?_⟩; (focus (intro w' hw'; have lk := lk1.out w' (seq_below bi hw'); first | (simp [lk, Result.andThen]; done) | exact lk; done)); go_big_quiet_on)))
    refine wpQuiet_nil ?_
    intro w8 hb8
    replace bi := seq_below bi hb8
    clear hb8
    have le : rlO X k cH aE aH aY = refO X (sameA aE aH aY 2 0 false) := by unfold rlO; rw [hp1, if_pos (by omega)]
    go_upto_region 3 with fail
    refine region_below (by kernel_rfl) (by kernel_rfl) ?_
    repeat (first | go_big_quiet_skip | (go_big_quiet_want; go_big_quiet_op; first | go_big_quiet_on | (refine ⟨_, fun _ _ => rfl, ?_⟩; go_big_quiet_on) | (refine ⟨.agg #[.int .i64 aE, .int .u64 (aH : Nat), .bool aY], ?_, ?_⟩; (focus (intro w' hw'; obtain ⟨a0, a1, a2⟩ := ans_cells (HA.out w' (seq_below bi hw')); simp [a0, a1, a2, Result.andThen]; done)); go_big_quiet_on) | (with_reducible refine ⟨_, (fun w' hw' => (refusal_any 2 w').mono fun _ _ ⟨he, hb⟩ => ⟨he, seq_below hw' hb⟩), ?_⟩; go_big_quiet_on) | (refine ⟨.bool (sameA aE aH aY 2 0 false), ?_, ?_⟩; (focus (intro w' hw'; unfold sameA; by_cases g1 : aE = 2 <;> by_cases g2 : aH = 0 <;> cases aY <;> simp [g1, g2, Result.andThen]; done)); go_big_quiet_on)))
    refine wpQuiet_nil ?_
    intro w8 hb8
    replace bi := seq_below bi hb8
    clear hb8
    go_wp2
    go_ret
    exact ⟨by rw [← hoz.out, le, refO_some]; rfl, ⟨m, by rw [← hoz.out, le, refO_get]; exact ((HM.out _ bi).up (fun i q => .inl q)).more (by omega)⟩, Chg.of_below (seq_below bel bi)⟩
set_option maxRecDepth 100000 in
set_option maxHeartbeats 8000000 in
theorem compares_any {w : World} {B : Nat} {L : Nat → Prop} {C : Cg} {n : Nat} {X : Sx} {m : Md} (h : MdOk w B L C n X m) (hL : ∀ i, L i → i < w.heap.size) {N : Nat} (iv : X.Inv N) (hN : N < 1000000) (hn : n < 1000000) {k : Nat} (hk : k < C.c) (kd cN : Int) {cH cX cY : Nat} (hcH : cH < 18446744073709551616) (hcX : cX < 18446744073709551616) (hcY : cY < 18446744073709551616) (aE : Int) {aH : Nat} (hH : aH < 18446744073709551616) (aY : Bool) :
    Calls Try.prog 57 #[.pointer (some ⟨m.Bc, 3 * k, none⟩), .agg #[.int .i64 kd, .int .i64 cN, .int .u64 (cH : Nat), .int .u64 (cX : Nat), .int .u64 (cY : Nat)], .agg #[.int .i64 aE, .int .u64 (aH : Nat), .bool aY]] w fun r w' => r = .returned (.bool (cpO X k cH cX aE aH aY).isSome) ∧ (∃ m', MdOk w' B (Lup L w w') C (n + 2) ((cpO X k cH cX aE aH aY).getD X) m') ∧ Chg L w w' := by
  obtain ⟨oz, hoz⟩ : ∃ oz, cpO X k cH cX aE aH aY = oz := ⟨_, rfl⟩
  rw [hoz]
  replace hoz := hid1 hoz
  have hq := new_obj w (.cells #[.int .i64 kd, .int .i64 cN, .int .u64 (cH : Nat), .int .u64 (cX : Nat), .int .u64 (cY : Nat)] 41)
  have b1 := alloc_below w (.cells #[.int .i64 kd, .int .i64 cN, .int .u64 (cH : Nat), .int .u64 (cX : Nat), .int .u64 (cY : Nat)] 41)
  have e1 : (w.alloc (.cells #[.int .i64 kd, .int .i64 cN, .int .u64 (cH : Nat), .int .u64 (cX : Nat), .int .u64 (cY : Nat)] 41)).heap.size = w.heap.size + 1 := by simp
  generalize hw1 : w.alloc (.cells #[.int .i64 kd, .int .i64 cN, .int .u64 (cH : Nat), .int .u64 (cX : Nat), .int .u64 (cY : Nat)] 41) = w0 at hq b1 e1
  have ha := new_obj w0 (.cells #[.int .i64 aE, .int .u64 (aH : Nat), .bool aY] 39)
  have b2 := alloc_below w0 (.cells #[.int .i64 aE, .int .u64 (aH : Nat), .bool aY] 39)
  replace hq := (b2.block _ (lt_of_block hq)).trans hq
  rw [e1] at ha
  have bel := seq_below b1 b2
  replace hw1 := hid1 hw1
  clear b1 b2 e1
  replace h := h.below bel
  have HM := hid1 (fun (w' : World) (b : Below (w0.alloc (.cells #[.int .i64 aE, .int .u64 (aH : Nat), .bool aY] 39)).heap.size (w0.alloc (.cells #[.int .i64 aE, .int .u64 (aH : Nat), .bool aY] 39)) w') => h.below b)
  have HK := hid1 (fun (w' : World) (b : Below (w0.alloc (.cells #[.int .i64 aE, .int .u64 (aH : Nat), .bool aY] 39)).heap.size (w0.alloc (.cells #[.int .i64 aE, .int .u64 (aH : Nat), .bool aY] 39)) w') => (h.below b).cq hk)
  have hp := hid1 (nodeF_lt iv.ok (k : Int))
  obtain ⟨o, ho⟩ : ∃ o, 3 * k = o := ⟨_, rfl⟩
  rw [ho] at HK ⊢
  replace ho := hid1 ho
  replace hk := hid1 hk
  replace hL := hid1 hL
  replace iv := hid1 iv
  clear h
  go_enter Try.func57, Try.ntmps57
  go_upto_region 1 with fail
  rw [hw1.out]
  clear hw1
  generalize World.alloc _ _ = w1 at *
  generalize hbc : w.heap.size = bq at hq ha ⊢
  replace hbc := hid1 hbc
  have hba := hid1 (show bq + 1 = bq + 1 from rfl)
  obtain ⟨ba, hba⟩ : ∃ ba, bq + 1 = ba := ⟨_, rfl⟩
  rw [hba] at ha ⊢
  replace hba := hid1 hba
  have HQ := hid1 (fun (w' : World) (b : Below w1.heap.size w1 w') => (b.block _ (lt_of_block hq)).trans hq)
  have HA := hid1 (fun (w' : World) (b : Below w1.heap.size w1 w') => (b.block _ (lt_of_block ha)).trans ha)
  have bi := Below.refl w1.heap.size w1
  obtain ⟨p1, hp1⟩ : ∃ p, nodeF (k : Int) cH X.H = p := ⟨_, rfl⟩
  have lk1 := hid1 (fun (w' : World) (b : Below w1.heap.size w1 w') => ((HK.out w' b).hd.look hcH))
  rw [hp1] at lk1
  by_cases g1 : 0 ≤ p1
  · rw [if_pos g1, decide_eq_true g1] at lk1
    refine region_below (by kernel_rfl) (by kernel_rfl) ?_
    repeat (first | go_big_quiet_skip | (go_big_quiet_want; go_big_quiet_op; first | go_big_quiet_on | (refine ⟨_, fun _ _ => rfl, ?_⟩; go_big_quiet_on) | (refine ⟨.map (some (m.bk k)), ?_, ?_⟩; (focus (intro w' hw'; have ck := HK.out w' (seq_below bi hw'); have y0 := ck.y0; have y1 := ck.y1; have y2 := ck.y2; simp [y0, Result.andThen]; done)); go_big_quiet_on) | (refine ⟨.int .u64 (cH : Nat), ?_, ?_⟩; (focus (intro w' hw'; obtain ⟨q0, q1, q2, q3, q4⟩ := call_cells (HQ.out w' (seq_below bi hw')); simp [q2, Result.andThen]; done)); go_big_quiet_on) | (refine ⟨.tuple #[.int .i64 p1, .bool true], ?_, ?_⟩; (focus (intro w' hw'; have lk := lk1.out w' (seq_below bi hw'); first | (simp [lk, Result.andThen]; done) | exact lk; done)); go_big_quiet_on)))
    refine wpQuiet_nil ?_
    intro w8 hb8
    replace bi := seq_below bi hb8
    clear hb8
    go_upto_region 2 with fail
    obtain ⟨p2, hp2⟩ : ∃ p, nodeF (k : Int) cX X.H = p := ⟨_, rfl⟩
    have lk2 := hid1 (fun (w' : World) (b : Below w1.heap.size w1 w') => ((HK.out w' b).hd.look hcX))
    rw [hp2] at lk2
    by_cases g2 : 0 ≤ p2
    · rw [if_pos g2, decide_eq_true g2] at lk2
      refine region_below (by kernel_rfl) (by kernel_rfl) ?_
      repeat (first | go_big_quiet_skip | (go_big_quiet_want; go_big_quiet_op; first | go_big_quiet_on | (refine ⟨_, fun _ _ => rfl, ?_⟩; go_big_quiet_on) | (refine ⟨.map (some (m.bk k)), ?_, ?_⟩; (focus (intro w' hw'; have ck := HK.out w' (seq_below bi hw'); have y0 := ck.y0; have y1 := ck.y1; have y2 := ck.y2; simp [y0, Result.andThen]; done)); go_big_quiet_on) | (refine ⟨.int .u64 (cX : Nat), ?_, ?_⟩; (focus (intro w' hw'; obtain ⟨q0, q1, q2, q3, q4⟩ := call_cells (HQ.out w' (seq_below bi hw')); simp [q3, Result.andThen]; done)); go_big_quiet_on) | (refine ⟨.tuple #[.int .i64 p2, .bool true], ?_, ?_⟩; (focus (intro w' hw'; have lk := lk2.out w' (seq_below bi hw'); first | (simp [lk, Result.andThen]; done) | exact lk; done)); go_big_quiet_on)))
      refine wpQuiet_nil ?_
      intro w8 hb8
      replace bi := seq_below bi hb8
      clear hb8
      by_cases gq : p1 = p2
      · have f3 : (p1 == p2) = true := by simp [gq]
        have f4 : decide (p1 = p2) = true := decide_eq_true gq
        replace gq := hid1 gq
        obtain ⟨a0, a1, a2⟩ := ans_cells (HA.out _ bi)
        by_cases gE : aE = 0
        · have f1 : (aE == 0) = true := by simp [gE]
          by_cases gH : aH = 0
          · have f2 : ((aH : Int) == 0) = true := by simp [gH]
            cases aY with
            | false =>
              have sA : sameA aE aH false 0 0 true = false := by unfold sameA; simp
              replace gE := hid1 gE
              replace gH := hid1 gH
              have le : cpO X k cH cX aE aH false = none := by unfold cpO; rw [hp1, hp2, if_neg (by omega), f4, sA]; rfl
              go_wp2
              go_ret
              exact ⟨by rw [← hoz.out, le]; rfl, ⟨m, by rw [← hoz.out, le]; exact ((HM.out _ bi).up (fun i q => .inl q)).more (by omega)⟩, Chg.of_below (seq_below bel bi)⟩
            | true =>
              have sA : sameA aE aH true 0 0 true = true := by unfold sameA; simp [gE, gH]
              replace gE := hid1 gE
              replace gH := hid1 gH
              have le : cpO X k cH cX aE aH true = some X := by unfold cpO; rw [hp1, hp2, if_neg (by omega), f4, sA]; rfl
              go_wp2
              go_ret
              exact ⟨by rw [← hoz.out, le]; rfl, ⟨m, by rw [← hoz.out, le]; exact ((HM.out _ bi).up (fun i q => .inl q)).more (by omega)⟩, Chg.of_below (seq_below bel bi)⟩
          · have f2 : ((aH : Int) == 0) = false := by simp; omega
            have sA : sameA aE aH aY 0 0 true = false := by unfold sameA; simp [gH]
            replace gE := hid1 gE
            replace gH := hid1 gH
            have le : cpO X k cH cX aE aH aY = none := by unfold cpO; rw [hp1, hp2, if_neg (by omega), f4, sA]; rfl
            go_wp2
            go_ret
            exact ⟨by rw [← hoz.out, le]; rfl, ⟨m, by rw [← hoz.out, le]; exact ((HM.out _ bi).up (fun i q => .inl q)).more (by omega)⟩, Chg.of_below (seq_below bel bi)⟩
        · have f1 : (aE == 0) = false := by simp [gE]
          have sA : sameA aE aH aY 0 0 true = false := by unfold sameA; simp [gE]
          replace gE := hid1 gE
          have le : cpO X k cH cX aE aH aY = none := by unfold cpO; rw [hp1, hp2, if_neg (by omega), f4, sA]; rfl
          go_wp2
          go_ret
          exact ⟨by rw [← hoz.out, le]; rfl, ⟨m, by rw [← hoz.out, le]; exact ((HM.out _ bi).up (fun i q => .inl q)).more (by omega)⟩, Chg.of_below (seq_below bel bi)⟩
      · have f3 : (p1 == p2) = false := by simp [gq]
        have f4 : decide (p1 = p2) = false := decide_eq_false gq
        replace gq := hid1 gq
        obtain ⟨a0, a1, a2⟩ := ans_cells (HA.out _ bi)
        by_cases gE : aE = 0
        · have f1 : (aE == 0) = true := by simp [gE]
          by_cases gH : aH = 0
          · have f2 : ((aH : Int) == 0) = true := by simp [gH]
            cases aY with
            | true =>
              have sA : sameA aE aH true 0 0 false = false := by unfold sameA; simp
              replace gE := hid1 gE
              replace gH := hid1 gH
              have le : cpO X k cH cX aE aH true = none := by unfold cpO; rw [hp1, hp2, if_neg (by omega), f4, sA]; rfl
              go_wp2
              go_ret
              exact ⟨by rw [← hoz.out, le]; rfl, ⟨m, by rw [← hoz.out, le]; exact ((HM.out _ bi).up (fun i q => .inl q)).more (by omega)⟩, Chg.of_below (seq_below bel bi)⟩
            | false =>
              have sA : sameA aE aH false 0 0 false = true := by unfold sameA; simp [gE, gH]
              replace gE := hid1 gE
              replace gH := hid1 gH
              have le : cpO X k cH cX aE aH false = some X := by unfold cpO; rw [hp1, hp2, if_neg (by omega), f4, sA]; rfl
              go_wp2
              go_ret
              exact ⟨by rw [← hoz.out, le]; rfl, ⟨m, by rw [← hoz.out, le]; exact ((HM.out _ bi).up (fun i q => .inl q)).more (by omega)⟩, Chg.of_below (seq_below bel bi)⟩
          · have f2 : ((aH : Int) == 0) = false := by simp; omega
            have sA : sameA aE aH aY 0 0 false = false := by unfold sameA; simp [gH]
            replace gE := hid1 gE
            replace gH := hid1 gH
            have le : cpO X k cH cX aE aH aY = none := by unfold cpO; rw [hp1, hp2, if_neg (by omega), f4, sA]; rfl
            go_wp2
            go_ret
            exact ⟨by rw [← hoz.out, le]; rfl, ⟨m, by rw [← hoz.out, le]; exact ((HM.out _ bi).up (fun i q => .inl q)).more (by omega)⟩, Chg.of_below (seq_below bel bi)⟩
        · have f1 : (aE == 0) = false := by simp [gE]
          have sA : sameA aE aH aY 0 0 false = false := by unfold sameA; simp [gE]
          replace gE := hid1 gE
          have le : cpO X k cH cX aE aH aY = none := by unfold cpO; rw [hp1, hp2, if_neg (by omega), f4, sA]; rfl
          go_wp2
          go_ret
          exact ⟨by rw [← hoz.out, le]; rfl, ⟨m, by rw [← hoz.out, le]; exact ((HM.out _ bi).up (fun i q => .inl q)).more (by omega)⟩, Chg.of_below (seq_below bel bi)⟩
    · rw [if_neg g2, decide_eq_false g2] at lk2
      refine region_below (by kernel_rfl) (by kernel_rfl) ?_
      repeat (first | go_big_quiet_skip | (go_big_quiet_want; go_big_quiet_op; first | go_big_quiet_on | (refine ⟨_, fun _ _ => rfl, ?_⟩; go_big_quiet_on) | (refine ⟨.map (some (m.bk k)), ?_, ?_⟩; (focus (intro w' hw'; have ck := HK.out w' (seq_below bi hw'); have y0 := ck.y0; have y1 := ck.y1; have y2 := ck.y2; simp [y0, Result.andThen]; done)); go_big_quiet_on) | (refine ⟨.int .u64 (cX : Nat), ?_, ?_⟩; (focus (intro w' hw'; obtain ⟨q0, q1, q2, q3, q4⟩ := call_cells (HQ.out w' (seq_below bi hw')); simp [q3, Result.andThen]; done)); go_big_quiet_on) | (refine ⟨.tuple #[.int .i64 0, .bool false], ?_, ?_⟩; (focus (intro w' hw'; have lk := lk2.out w' (seq_below bi hw'); first | (simp [lk, Result.andThen]; done) | exact lk; done)); go_big_quiet_on)))
      refine wpQuiet_nil ?_
      intro w8 hb8
      replace bi := seq_below bi hb8
      clear hb8
      have le : cpO X k cH cX aE aH aY = refO X (sameA aE aH aY 2 0 false) := by unfold cpO; rw [hp1, hp2, if_pos (by omega)]
      go_upto_region 4 with fail
      refine region_below (by kernel_rfl) (by kernel_rfl) ?_
      repeat (first | go_big_quiet_skip | (go_big_quiet_want; go_big_quiet_op; first | go_big_quiet_on | (refine ⟨_, fun _ _ => rfl, ?_⟩; go_big_quiet_on) | (refine ⟨.agg #[.int .i64 aE, .int .u64 (aH : Nat), .bool aY], ?_, ?_⟩; (focus (intro w' hw'; obtain ⟨a0, a1, a2⟩ := ans_cells (HA.out w' (seq_below bi hw')); simp [a0, a1, a2, Result.andThen]; done)); go_big_quiet_on) | (with_reducible refine ⟨_, (fun w' hw' => (refusal_any 2 w').mono fun _ _ ⟨he, hb⟩ => ⟨he, seq_below hw' hb⟩), ?_⟩; go_big_quiet_on) | (refine ⟨.bool (sameA aE aH aY 2 0 false), ?_, ?_⟩; (focus (intro w' hw'; unfold sameA; by_cases g1 : aE = 2 <;> by_cases g2 : aH = 0 <;> cases aY <;> simp [g1, g2, Result.andThen]; done)); go_big_quiet_on)))
      refine wpQuiet_nil ?_
      intro w8 hb8
      replace bi := seq_below bi hb8
      clear hb8
      go_wp2
      go_ret
      exact ⟨by rw [← hoz.out, le, refO_some]; rfl, ⟨m, by rw [← hoz.out, le, refO_get]; exact ((HM.out _ bi).up (fun i q => .inl q)).more (by omega)⟩, Chg.of_below (seq_below bel bi)⟩
  · rw [if_neg g1, decide_eq_false g1] at lk1
    refine region_below (by kernel_rfl) (by kernel_rfl) ?_
    repeat (first | go_big_quiet_skip | (go_big_quiet_want; go_big_quiet_op; first | go_big_quiet_on | (refine ⟨_, fun _ _ => rfl, ?_⟩; go_big_quiet_on) | (refine ⟨.map (some (m.bk k)), ?_, ?_⟩; (focus (intro w' hw'; have ck := HK.out w' (seq_below bi hw'); have y0 := ck.y0; have y1 := ck.y1; have y2 := ck.y2; simp [y0, Result.andThen]; done)); go_big_quiet_on) | (refine ⟨.int .u64 (cH : Nat), ?_, ?_⟩; (focus (intro w' hw'; obtain ⟨q0, q1, q2, q3, q4⟩ := call_cells (HQ.out w' (seq_below bi hw')); simp [q2, Result.andThen]; done)); go_big_quiet_on) | (refine ⟨.tuple #[.int .i64 0, .bool false], ?_, ?_⟩; (focus (intro w' hw'; have lk := lk1.out w' (seq_below bi hw'); first | (simp [lk, Result.andThen]; done) | exact lk; done)); go_big_quiet_on)))
    refine wpQuiet_nil ?_
    intro w8 hb8
    replace bi := seq_below bi hb8
    clear hb8
    go_upto_region 2 with fail
    obtain ⟨p2, hp2⟩ : ∃ p, nodeF (k : Int) cX X.H = p := ⟨_, rfl⟩
    have lk2 := hid1 (fun (w' : World) (b : Below w1.heap.size w1 w') => ((HK.out w' b).hd.look hcX))
    rw [hp2] at lk2
    by_cases g2 : 0 ≤ p2
    · rw [if_pos g2, decide_eq_true g2] at lk2
      refine region_below (by kernel_rfl) (by kernel_rfl) ?_
      repeat (first | go_big_quiet_skip | (go_big_quiet_want; go_big_quiet_op; first | go_big_quiet_on | (refine ⟨_, fun _ _ => rfl, ?_⟩; go_big_quiet_on) | (refine ⟨.map (some (m.bk k)), ?_, ?_⟩; (focus (intro w' hw'; have ck := HK.out w' (seq_below bi hw'); have y0 := ck.y0; have y1 := ck.y1; have y2 := ck.y2; simp [y0, Result.andThen]; done)); go_big_quiet_on) | (refine ⟨.int .u64 (cX : Nat), ?_, ?_⟩; (focus (intro w' hw'; obtain ⟨q0, q1, q2, q3, q4⟩ := call_cells (HQ.out w' (seq_below bi hw')); simp [q3, Result.andThen]; done)); go_big_quiet_on) | (refine ⟨.tuple #[.int .i64 p2, .bool true], ?_, ?_⟩; (focus (intro w' hw'; have lk := lk2.out w' (seq_below bi hw'); first | (simp [lk, Result.andThen]; done) | exact lk; done)); go_big_quiet_on)))
      refine wpQuiet_nil ?_
      intro w8 hb8
      replace bi := seq_below bi hb8
      clear hb8
      have le : cpO X k cH cX aE aH aY = refO X (sameA aE aH aY 2 0 false) := by unfold cpO; rw [hp1, hp2, if_pos (by omega)]
      go_upto_region 4 with fail
      refine region_below (by kernel_rfl) (by kernel_rfl) ?_
      repeat (first | go_big_quiet_skip | (go_big_quiet_want; go_big_quiet_op; first | go_big_quiet_on | (refine ⟨_, fun _ _ => rfl, ?_⟩; go_big_quiet_on) | (refine ⟨.agg #[.int .i64 aE, .int .u64 (aH : Nat), .bool aY], ?_, ?_⟩; (focus (intro w' hw'; obtain ⟨a0, a1, a2⟩ := ans_cells (HA.out w' (seq_below bi hw')); simp [a0, a1, a2, Result.andThen]; done)); go_big_quiet_on) | (with_reducible refine ⟨_, (fun w' hw' => (refusal_any 2 w').mono fun _ _ ⟨he, hb⟩ => ⟨he, seq_below hw' hb⟩), ?_⟩; go_big_quiet_on) | (refine ⟨.bool (sameA aE aH aY 2 0 false), ?_, ?_⟩; (focus (intro w' hw'; unfold sameA; by_cases g1 : aE = 2 <;> by_cases g2 : aH = 0 <;> cases aY <;> simp [g1, g2, Result.andThen]; done)); go_big_quiet_on)))
      refine wpQuiet_nil ?_
      intro w8 hb8
      replace bi := seq_below bi hb8
      clear hb8
      go_wp2
      go_ret
      exact ⟨by rw [← hoz.out, le, refO_some]; rfl, ⟨m, by rw [← hoz.out, le, refO_get]; exact ((HM.out _ bi).up (fun i q => .inl q)).more (by omega)⟩, Chg.of_below (seq_below bel bi)⟩
    · rw [if_neg g2, decide_eq_false g2] at lk2
      refine region_below (by kernel_rfl) (by kernel_rfl) ?_
      repeat (first | go_big_quiet_skip | (go_big_quiet_want; go_big_quiet_op; first | go_big_quiet_on | (refine ⟨_, fun _ _ => rfl, ?_⟩; go_big_quiet_on) | (refine ⟨.map (some (m.bk k)), ?_, ?_⟩; (focus (intro w' hw'; have ck := HK.out w' (seq_below bi hw'); have y0 := ck.y0; have y1 := ck.y1; have y2 := ck.y2; simp [y0, Result.andThen]; done)); go_big_quiet_on) | (refine ⟨.int .u64 (cX : Nat), ?_, ?_⟩; (focus (intro w' hw'; obtain ⟨q0, q1, q2, q3, q4⟩ := call_cells (HQ.out w' (seq_below bi hw')); simp [q3, Result.andThen]; done)); go_big_quiet_on) | (refine ⟨.tuple #[.int .i64 0, .bool false], ?_, ?_⟩; (focus (intro w' hw'; have lk := lk2.out w' (seq_below bi hw'); first | (simp [lk, Result.andThen]; done) | exact lk; done)); go_big_quiet_on)))
      refine wpQuiet_nil ?_
      intro w8 hb8
      replace bi := seq_below bi hb8
      clear hb8
      have le : cpO X k cH cX aE aH aY = refO X (sameA aE aH aY 2 0 false) := by unfold cpO; rw [hp1, hp2, if_pos (by omega)]
      go_upto_region 4 with fail
      refine region_below (by kernel_rfl) (by kernel_rfl) ?_
      repeat (first | go_big_quiet_skip | (go_big_quiet_want; go_big_quiet_op; first | go_big_quiet_on | (refine ⟨_, fun _ _ => rfl, ?_⟩; go_big_quiet_on) | (refine ⟨.agg #[.int .i64 aE, .int .u64 (aH : Nat), .bool aY], ?_, ?_⟩; (focus (intro w' hw'; obtain ⟨a0, a1, a2⟩ := ans_cells (HA.out w' (seq_below bi hw')); simp [a0, a1, a2, Result.andThen]; done)); go_big_quiet_on) | (with_reducible refine ⟨_, (fun w' hw' => (refusal_any 2 w').mono fun _ _ ⟨he, hb⟩ => ⟨he, seq_below hw' hb⟩), ?_⟩; go_big_quiet_on) | (refine ⟨.bool (sameA aE aH aY 2 0 false), ?_, ?_⟩; (focus (intro w' hw'; unfold sameA; by_cases g1 : aE = 2 <;> by_cases g2 : aH = 0 <;> cases aY <;> simp [g1, g2, Result.andThen]; done)); go_big_quiet_on)))
      refine wpQuiet_nil ?_
      intro w8 hb8
      replace bi := seq_below bi hb8
      clear hb8
      go_wp2
      go_ret
      exact ⟨by rw [← hoz.out, le, refO_some]; rfl, ⟨m, by rw [← hoz.out, le, refO_get]; exact ((HM.out _ bi).up (fun i q => .inl q)).more (by omega)⟩, Chg.of_below (seq_below bel bi)⟩
end Go.Proofs.Ytecppcakgfohbab
