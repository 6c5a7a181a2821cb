/- What a write names. -/
import Derived.Test.YtecppcakgfohbabNJ
namespace Go.Proofs.Ytecppcakgfohbab
open Go.RowKit
set_option linter.unusedSimpArgs false
set_option linter.unusedVariables false

def hnB (X : Sx) (k : Nat) (q : Nat) : Bool := decide (q = 0) || decide (0 ≤ nodeF k q X.H)
set_option maxRecDepth 100000 in
set_option maxHeartbeats 4000000 in
theorem heldOrNone_any {w : World} {Bc o n k b : Nat} {X : Sx} {c : Value} (ck : Ck w Bc o n k X b c) {N : Nat} (iv : X.Inv N) {q : Nat} (hq : q < 18446744073709551616) :
    Calls Try.prog 78 #[.pointer (some ⟨Bc, o, none⟩), .int .u64 (q : Nat)] w fun r w' => ∃ x, r = .returned (.tuple #[.int .i64 x, .bool (hnB X k q)]) ∧ (hnB X k q = true → x = nodeF k q X.H) ∧ Below w.heap.size w w' := by
  have HK := hid1 (fun (w' : World) (b : Below w.heap.size w w') => ck.below b)
  clear ck
  obtain ⟨rb, hrb⟩ : ∃ rb, hnB X k q = rb := ⟨_, rfl⟩
  rw [hrb]
  have hz := iv.zero (k : Int)
  have bi := Below.refl w.heap.size w
  by_cases h0 : q = 0
  · subst h0
    have e : rb = true := by rw [← hrb]; unfold hnB; simp
    subst e
    clear hrb HK iv hq
    go_enter Try.func78, Try.ntmps78
    go_wp2
    refine bodyPost_ret (results_tmp2 rfl _ _ _) rfl ?_
    exact ⟨_, rfl, fun _ => hz.symm, bi⟩
  · have f0 : ((q : Int) == 0) = false := by simp; omega
    have e : rb = decide (0 ≤ nodeF k q X.H) := by rw [← hrb]; unfold hnB; rw [decide_eq_false h0, Bool.false_or]
    obtain ⟨p, hp⟩ : ∃ p, nodeF (k : Int) q X.H = p := ⟨_, rfl⟩
    have lk := hid1 (fun (w' : World) (b : Below w.heap.size w w') => ((HK.out w' b).hd.look hq))
    rw [hp] at lk e
    replace hp := hid1 hp
    replace h0 := hid1 h0
    clear hrb hz iv
    by_cases g : 0 ≤ p
    · rw [decide_eq_true g] at e
      rw [if_pos g, decide_eq_true g] at lk
      subst e
      go_enter Try.func78, Try.ntmps78
      obtain ⟨y0, y1, y2⟩ := (And.intro (HK.out _ bi).y0 (And.intro (HK.out _ bi).y1 (HK.out _ bi).y2) : _)
      have l0 := lk.out _ bi
      clear lk HK
      go_wp2
      refine bodyPost_ret (results_tmp2 rfl _ _ _) rfl ?_
      exact ⟨_, rfl, fun _ => hp.out.symm, bi⟩
    · rw [decide_eq_false g] at e
      rw [if_neg g, decide_eq_false g] at lk
      subst e
      go_enter Try.func78, Try.ntmps78
      obtain ⟨y0, y1, y2⟩ := (And.intro (HK.out _ bi).y0 (And.intro (HK.out _ bi).y1 (HK.out _ bi).y2) : _)
      have l0 := lk.out _ bi
      clear lk HK
      go_wp2
      refine bodyPost_ret (results_tmp2 rfl _ _ _) rfl ?_
      first | exact ⟨_, rfl, fun h => by cases h, bi⟩ | exact ⟨⟨_, rfl⟩, bi⟩
set_option maxRecDepth 100000 in
set_option maxHeartbeats 4000000 in
theorem named_any {w : World} {Bc o n k b : Nat} {X : Sx} {c : Value} (ck : Ck w Bc o n k X b c) {N : Nat} (iv : X.Inv N) (kd cN : Int) {cH cX cY : Nat} (hcX : cX < 18446744073709551616) (hcY : cY < 18446744073709551616) (hkd : kd = 3 ∨ kd = 4 ∨ kd = 5) :
    Calls Try.prog 71 #[.pointer (some ⟨Bc, o, none⟩), .agg #[.int .i64 kd, .int .i64 cN, .int .u64 (cH : Nat), .int .u64 (cX : Nat), .int .u64 (cY : Nat)]] w fun r w' => ∃ x y, r = .returned (.tuple #[.int .i64 x, .int .i64 y, .bool (nmF X k kd cX cY).2.2]) ∧ ((nmF X k kd cX cY).2.2 = true → x = (nmF X k kd cX cY).1 ∧ y = (nmF X k kd cX cY).2.1) ∧ Below w.heap.size w w' := by
  have hq := new_obj w (.cells #[.int .i64 kd, .int .i64 cN, .int .u64 (cH : Nat), .int .u64 (cX : Nat), .int .u64 (cY : Nat)] 41)
  have bel := alloc_below w (.cells #[.int .i64 kd, .int .i64 cN, .int .u64 (cH : Nat), .int .u64 (cX : Nat), .int .u64 (cY : Nat)] 41)
  have HK := hid1 (fun (w' : World) (b : Below w.heap.size w w') => ck.below b)
  clear ck
  obtain ⟨tx, htx⟩ : ∃ t, nmF X k kd cX cY = t := ⟨_, rfl⟩
  rw [htx]
  replace htx := hid1 htx
  replace iv := hid1 iv
  rcases hkd with rfl | rfl | rfl
  · obtain ⟨p, hp⟩ : ∃ p, nodeF (k : Int) cX X.H = p := ⟨_, rfl⟩
    have lk := hid1 (fun (w' : World) (b : Below w.heap.size w w') => ((HK.out w' b).hd.look hcX))
    rw [hp] at lk
    have et : tx = (p, -1, decide (0 ≤ p)) := by rw [← htx.out]; unfold nmF; rw [if_neg (by decide), if_pos rfl, hp]
    subst et
    replace hp := hid1 hp
    by_cases g : 0 ≤ p
    · rw [if_pos g, decide_eq_true g] at lk
      rw [decide_eq_true g]
      go_enter Try.func71, Try.ntmps71
      go_upto_region 1 with fail
      generalize World.alloc _ _ = w1 at *
      generalize hbc : w.heap.size = bq at hq ⊢
      replace hbc := hid1 hbc
      have HQ := hid1 (fun (w' : World) (b : Below w1.heap.size w1 w') => (b.block _ (lt_of_block hq)).trans hq)
      have bi := Below.refl w1.heap.size w1
      obtain ⟨q0, q1, q2, q3, q4⟩ := call_cells (HQ.out _ bi)
      go_upto_region 5 with fail
      clear q0 q1 q2 q3 q4
      refine region_below (by kernel_rfl) (by kernel_rfl) ?_
      repeat (first | go_big_quiet_skip | (go_big_quiet_want; go_big_quiet_op; first | go_big_quiet_on | (refine ⟨_, fun _ _ => rfl, ?_⟩; go_big_quiet_on) | (refine ⟨.map (some b), ?_, ?_⟩; (focus (intro w' hw'; have ck := HK.out w' (seq_below bel (seq_below bi hw')); have y0 := ck.y0; have y1 := ck.y1; have y2 := ck.y2; simp [y0, Result.andThen]; done)); go_big_quiet_on) | (refine ⟨.int .u64 (cX : Nat), ?_, ?_⟩; (focus (intro w' hw'; obtain ⟨q0, q1, q2, q3, q4⟩ := call_cells (HQ.out w' (seq_below bi hw')); simp [q3, Result.andThen]; done)); go_big_quiet_on) | (refine ⟨.tuple #[.int .i64 p, .bool true], ?_, ?_⟩; (focus (intro w' hw'; have l := lk.out w' (seq_below bel (seq_below bi hw')); first | (simp [l, Result.andThen]; done) | exact l; done)); go_big_quiet_on)))
      refine wpQuiet_nil ?_
      intro w8 hb8
      go_wp2
      refine bodyPost_ret (results_tmp3 rfl _ _ _) rfl ?_
      exact ⟨_, _, rfl, fun _ => ⟨rfl, rfl⟩, seq_below bel hb8⟩
    · rw [if_neg g, decide_eq_false g] at lk
      rw [decide_eq_false g]
      go_enter Try.func71, Try.ntmps71
      go_upto_region 1 with fail
      generalize World.alloc _ _ = w1 at *
      generalize hbc : w.heap.size = bq at hq ⊢
      replace hbc := hid1 hbc
      have HQ := hid1 (fun (w' : World) (b : Below w1.heap.size w1 w') => (b.block _ (lt_of_block hq)).trans hq)
      have bi := Below.refl w1.heap.size w1
      obtain ⟨q0, q1, q2, q3, q4⟩ := call_cells (HQ.out _ bi)
      go_upto_region 5 with fail
      clear q0 q1 q2 q3 q4
      refine region_below (by kernel_rfl) (by kernel_rfl) ?_
      repeat (first | go_big_quiet_skip | (go_big_quiet_want; go_big_quiet_op; first | go_big_quiet_on | (refine ⟨_, fun _ _ => rfl, ?_⟩; go_big_quiet_on) | (refine ⟨.map (some b), ?_, ?_⟩; (focus (intro w' hw'; have ck := HK.out w' (seq_below bel (seq_below bi hw')); have y0 := ck.y0; have y1 := ck.y1; have y2 := ck.y2; simp [y0, Result.andThen]; done)); go_big_quiet_on) | (refine ⟨.int .u64 (cX : Nat), ?_, ?_⟩; (focus (intro w' hw'; obtain ⟨q0, q1, q2, q3, q4⟩ := call_cells (HQ.out w' (seq_below bi hw')); simp [q3, Result.andThen]; done)); go_big_quiet_on) | (refine ⟨.tuple #[.int .i64 0, .bool false], ?_, ?_⟩; (focus (intro w' hw'; have l := lk.out w' (seq_below bel (seq_below bi hw')); first | (simp [l, Result.andThen]; done) | exact l; done)); go_big_quiet_on)))
      refine wpQuiet_nil ?_
      intro w8 hb8
      go_wp2
      refine bodyPost_ret (results_tmp3 rfl _ _ _) rfl ?_
      first | exact ⟨_, _, rfl, fun h => by cases h, seq_below bel hb8⟩ | exact ⟨⟨_, _, rfl⟩, seq_below bel hb8⟩
  · have et : tx = (-1, -1, true) := by rw [← htx.out]; unfold nmF; rw [if_pos rfl]
    subst et
    go_enter Try.func71, Try.ntmps71
    go_upto_region 1 with fail
    generalize World.alloc _ _ = w1 at *
    generalize hbc : w.heap.size = bq at hq ⊢
    replace hbc := hid1 hbc
    have HQ := hid1 (fun (w' : World) (b : Below w1.heap.size w1 w') => (b.block _ (lt_of_block hq)).trans hq)
    have bi := Below.refl w1.heap.size w1
    obtain ⟨q0, q1, q2, q3, q4⟩ := call_cells (HQ.out _ bi)
    go_wp2
    refine bodyPost_ret (results_tmp3 rfl _ _ _) rfl ?_
    exact ⟨_, _, rfl, fun _ => ⟨rfl, rfl⟩, bel⟩
  · have et : tx = (nodeF k cX X.H, nodeF k cY X.H, hnB X k cX && hnB X k cY) := by rw [← htx.out]; unfold nmF; rw [if_neg (by decide), if_neg (by decide)]; rfl
    subst et
    have CX := hid1 (fun (w' : World) (b : Below w.heap.size w w') => heldOrNone_any (HK.out w' b) iv.out hcX)
    have cY1 := hid1 (fun (w' : World) (b : Below w.heap.size w w') => heldOrNone_any (HK.out w' b) iv.out hcY)
    obtain ⟨bx, hbx⟩ : ∃ b, hnB X k cX = b := ⟨_, rfl⟩
    obtain ⟨by_, hby⟩ : ∃ b, hnB X k cY = b := ⟨_, rfl⟩
    rw [hbx] at CX ⊢
    rw [hby] at cY1 ⊢
    replace hbx := hid1 hbx
    replace hby := hid1 hby
    cases bx with
    | true =>
      cases by_ with
      | true =>
        go_enter Try.func71, Try.ntmps71
        go_upto_region 1 with fail
        generalize World.alloc _ _ = w1 at *
        generalize hbc : w.heap.size = bq at hq ⊢
        replace hbc := hid1 hbc
        have HQ := hid1 (fun (w' : World) (b : Below w1.heap.size w1 w') => (b.block _ (lt_of_block hq)).trans hq)
        have bi := Below.refl w1.heap.size w1
        obtain ⟨q0, q1, q2, q3, q4⟩ := call_cells (HQ.out _ bi)
        have cX1 := hid1 (CX.out _ bel)
        go_upto_region 8 with (go_at_call 78; with_reducible refine cX1.out.mono ?_; rintro r w2 ⟨x, rfl, hx, b2⟩)
        clear q0 q1 q2 q3 q4
        replace hx := hid1 hx
        obtain ⟨q0, q1, q2, q3, q4⟩ := call_cells (HQ.out _ b2)
        have bel2 := seq_below bel b2
        clear cX1
        go_wp2_with (go_at_call 78; with_reducible refine (cY1.out _ bel2).mono ?_; rintro r w3 ⟨y, rfl, hy, b3⟩; replace hy := hid1 hy)
        refine bodyPost_ret (results_tmp3 rfl _ _ _) rfl ?_
        exact ⟨_, _, rfl, fun hh => by simp at hh <;> exact ⟨by first | (simp; done) | simpa using hx.out, by first | (simp; done) | simpa using hy.out⟩, seq_below bel2 b3⟩
      | false =>
        go_enter Try.func71, Try.ntmps71
        go_upto_region 1 with fail
        generalize World.alloc _ _ = w1 at *
        generalize hbc : w.heap.size = bq at hq ⊢
        replace hbc := hid1 hbc
        have HQ := hid1 (fun (w' : World) (b : Below w1.heap.size w1 w') => (b.block _ (lt_of_block hq)).trans hq)
        have bi := Below.refl w1.heap.size w1
        obtain ⟨q0, q1, q2, q3, q4⟩ := call_cells (HQ.out _ bi)
        have cX1 := hid1 (CX.out _ bel)
        go_upto_region 8 with (go_at_call 78; with_reducible refine cX1.out.mono ?_; rintro r w2 ⟨x, rfl, hx, b2⟩)
        clear q0 q1 q2 q3 q4
        replace hx := hid1 hx
        obtain ⟨q0, q1, q2, q3, q4⟩ := call_cells (HQ.out _ b2)
        have bel2 := seq_below bel b2
        clear cX1
        go_wp2_with (go_at_call 78; with_reducible refine (cY1.out _ bel2).mono ?_; rintro r w3 ⟨y, rfl, hy, b3⟩; replace hy := hid1 hy)
        refine bodyPost_ret (results_tmp3 rfl _ _ _) rfl ?_
        exact ⟨_, _, rfl, fun hh => by simp at hh <;> exact ⟨by first | (simp; done) | simpa using hx.out, by first | (simp; done) | simpa using hy.out⟩, seq_below bel2 b3⟩
    | false =>
      go_enter Try.func71, Try.ntmps71
      go_upto_region 1 with fail
      generalize World.alloc _ _ = w1 at *
      generalize hbc : w.heap.size = bq at hq ⊢
      replace hbc := hid1 hbc
      have HQ := hid1 (fun (w' : World) (b : Below w1.heap.size w1 w') => (b.block _ (lt_of_block hq)).trans hq)
      have bi := Below.refl w1.heap.size w1
      obtain ⟨q0, q1, q2, q3, q4⟩ := call_cells (HQ.out _ bi)
      have cX1 := hid1 (CX.out _ bel)
      go_upto_region 8 with (go_at_call 78; with_reducible refine cX1.out.mono ?_; rintro r w2 ⟨x, rfl, hx, b2⟩)
      clear q0 q1 q2 q3 q4
      replace hx := hid1 hx
      obtain ⟨q0, q1, q2, q3, q4⟩ := call_cells (HQ.out _ b2)
      have bel2 := seq_below bel b2
      clear cX1
      go_wp2_with (go_at_call 78; with_reducible refine (cY1.out _ bel2).mono ?_; rintro r w3 ⟨y, rfl, hy, b3⟩; replace hy := hid1 hy)
      refine bodyPost_ret (results_tmp3 rfl _ _ _) rfl ?_
      exact ⟨_, _, rfl, fun hh => by simp at hh <;> exact ⟨by first | (simp; done) | simpa using hx.out, by first | (simp; done) | simpa using hy.out⟩, seq_below bel2 b3⟩
end Go.Proofs.Ytecppcakgfohbab
