/- New. -/
import Derived.Test.YtecppcakgfohbabNM
import Derived.Test.YtecppcakgfohbabNJ
namespace Go.Proofs.Ytecppcakgfohbab
open Go.RowKit
set_option linter.unusedSimpArgs false
set_option linter.unusedVariables false

theorem Try.infoSI : (Try.prog.info? 25).map (fun i => (i.zero, i.size, i.bytes)) = some (some (.slice none 0 0), 1, 24) := by kernel_rfl
/-- An own row of rows, one more, at a step of a region that draws its order. -/
theorem step_append_rows {w : World} {ops : Array Oper} {o : Oper} {a : Act} {K : Act → World → Prop} {Q : Exit → Act → World → Prop} {E : Prop} (hgd : o.guard = none) (s x : Operand)
    (ho : o.op = .call { callee := .builtin .append, args := #[s, x], argTypes := #[50, 50] })
    (v : Value) (n : Nat) (xs : List Value) (hs : a.eval s = v) (hI : w.ownsRow 0 25 1 v n xs) (bw : Nat) (r : Value) (hx : a.eval x = .slice (some ⟨bw, 0, none⟩) 1 1) (hr : w.cell? ⟨bw, 0, none⟩ = some r) (h1 : r.oneCell' = true) (hl : n < 1000000)
    (h : ∀ v' w', w'.ownsRow 0 25 1 v' (n + 1) (xs ++ [r]) → w.grownBy w' v.ownBlock → (v'.ownBlock = v.ownBlock ∨ v'.ownBlock = some w.heap.size) → K (a.put o.dst v') w') :
    if Region.wanted o (yielded ops a.tmps) = true then Oper.wp Try.prog o a w K Q else E := by
  have hw : Region.wanted o (yielded ops a.tmps) = true := by simp [Region.wanted, hgd]
  rw [if_pos hw]
  obtain ⟨i0, hi, hz0, hz1, hz2⟩ := info_parts Try.infoSI
  obtain ⟨v', w', hq, h2, h3, _, h4⟩ := run_append_own_at (P := Try.prog) w 0 50 o.type 25 i0 (.slice none 0 0) 1 24 Try.underlying50 hi hz0 hz1 hz2 rfl (by decide) v n xs hI ⟨bw, 0, none⟩ 1 1 [r] rfl
    (fun j u hj => by
      match j, hj with
      | 0, hj => obtain rfl : r = u := by simpa using hj
                 rw [add_none]; exact hr
      | j + 1, hj => simp at hj) (fun u hu => by obtain rfl := List.mem_singleton.1 hu; exact h1) (by unfold maxLen; omega) (by omega) (Nat.zero_le _)
  unfold Oper.wp execOp
  simp only [ho, resolve, invoke, builtin, Sem.run_bind, Sem.run_pure, Result.andThen_ok, List.map_toArray, List.map_cons, List.map_nil, hs, hx, hq]
  exact h v' w' h2 h3 h4
set_option maxRecDepth 100000 in
set_option maxHeartbeats 8000000 in
theorem makes_any {w : World} {B : Nat} {L : Nat → Prop} {C : Cg} {n : Nat} {X : Sx} {m : Md} (h : MdOk w B L C n X m) (hL : ∀ i, L i → i < w.heap.size) {N : Nat} (iv : X.Inv N) (hN : N < 1000000) (hn : n < 1000000) {k : Nat} (hk : k < C.c) (kd cN : Int) {cH cX cY : Nat} (hcH : cH < 18446744073709551616) (hcX : cX < 18446744073709551616) (hcY : cY < 18446744073709551616) (aE : Int) {aH : Nat} (hH : aH < 18446744073709551616) (aY : Bool) (hCa : C.a ≤ 8) :
    Calls Try.prog 52 #[.pointer (some ⟨B, 0, none⟩), .pointer (some ⟨m.Bc, 3 * k, none⟩), .agg #[.int .i64 kd, .int .i64 cN, .int .u64 (cH : Nat), .int .u64 (cX : Nat), .int .u64 (cY : Nat)], .agg #[.int .i64 aE, .int .u64 (aH : Nat), .bool aY]] w fun r w' => r = .returned (.bool (mkO C X k cN aE aH aY).isSome) ∧ (∃ m', MdOk w' B (Lup L w w') C (n + 2) ((mkO C X k cN aE aH aY).getD X) m') ∧ Chg L w w' := by
  obtain ⟨oz, hoz⟩ : ∃ oz, mkO C X k cN aE aH aY = oz := ⟨_, rfl⟩
  rw [hoz]
  replace hoz := hid1 hoz
  have hq := new_obj w (.cells #[.int .i64 kd, .int .i64 cN, .int .u64 (cH : Nat), .int .u64 (cX : Nat), .int .u64 (cY : Nat)] 41)
  have b1 := alloc_below w (.cells #[.int .i64 kd, .int .i64 cN, .int .u64 (cH : Nat), .int .u64 (cX : Nat), .int .u64 (cY : Nat)] 41)
  have e1 : (w.alloc (.cells #[.int .i64 kd, .int .i64 cN, .int .u64 (cH : Nat), .int .u64 (cX : Nat), .int .u64 (cY : Nat)] 41)).heap.size = w.heap.size + 1 := by simp
  generalize hw1 : w.alloc (.cells #[.int .i64 kd, .int .i64 cN, .int .u64 (cH : Nat), .int .u64 (cX : Nat), .int .u64 (cY : Nat)] 41) = w0 at hq b1 e1
  have ha := new_obj w0 (.cells #[.int .i64 aE, .int .u64 (aH : Nat), .bool aY] 39)
  have b2 := alloc_below w0 (.cells #[.int .i64 aE, .int .u64 (aH : Nat), .bool aY] 39)
  replace hq := (b2.block _ (lt_of_block hq)).trans hq
  rw [e1] at ha
  have bel := seq_below b1 b2
  replace hw1 := hid1 hw1
  clear b1 b2 e1
  replace h := h.below bel
  have HM := hid1 (fun (w' : World) (b : Below (w0.alloc (.cells #[.int .i64 aE, .int .u64 (aH : Nat), .bool aY] 39)).heap.size (w0.alloc (.cells #[.int .i64 aE, .int .u64 (aH : Nat), .bool aY] 39)) w') => h.below b)
  have HK := hid1 (fun (w' : World) (b : Below (w0.alloc (.cells #[.int .i64 aE, .int .u64 (aH : Nat), .bool aY] 39)).heap.size (w0.alloc (.cells #[.int .i64 aE, .int .u64 (aH : Nat), .bool aY] 39)) w') => (h.below b).cq hk)
  have hp := hid1 (nodeF_lt iv.ok (k : Int))
  obtain ⟨o, ho⟩ : ∃ o, 3 * k = o := ⟨_, rfl⟩
  rw [ho] at HK ⊢
  replace ho := hid1 ho
  replace hk := hid1 hk
  replace hL := hid1 hL
  replace iv := hid1 iv
  clear h
  go_enter Try.func52, Try.ntmps52
  go_upto_region 1 with fail
  rw [hw1.out]
  clear hw1
  generalize World.alloc _ _ = w1 at *
  generalize hbc : w.heap.size = bq at hq ha ⊢
  replace hbc := hid1 hbc
  obtain ⟨ba, hba⟩ : ∃ ba, bq + 1 = ba := ⟨_, rfl⟩
  rw [hba] at ha ⊢
  replace hba := hid1 hba
  have HQ := hid1 (fun (w' : World) (b : Below w1.heap.size w1 w') => (b.block _ (lt_of_block hq)).trans hq)
  have HA := hid1 (fun (w' : World) (b : Below w1.heap.size w1 w') => (b.block _ (lt_of_block ha)).trans ha)
  have bi := Below.refl w1.heap.size w1
  by_cases gN : cN < 0 ∨ C.a < cN
  · by_cases g1 : cN < 0
    · have f1 : decide (cN < 0) = true := decide_eq_true g1
      refine region_below (by kernel_rfl) (by kernel_rfl) ?_
      repeat (first | go_big_quiet_skip | (go_big_quiet_want; go_big_quiet_op; first | go_big_quiet_on | (refine ⟨_, fun _ _ => rfl, ?_⟩; go_big_quiet_on) | (refine ⟨.int .i64 cN, ?_, ?_⟩; (focus (intro w' hw'; obtain ⟨q0, q1, q2, q3, q4⟩ := call_cells (HQ.out w' (seq_below bi hw')); simp [q1, Result.andThen]; done)); go_big_quiet_on)))
      refine wpQuiet_nil ?_
      intro w8 hb8
      replace bi := seq_below bi hb8
      clear hb8
      go_upto_region 2 with fail
      clear f1
      have le : mkO C X k cN aE aH aY = refO X (sameA aE aH aY 1 0 false) := by unfold mkO; rw [if_pos gN]
      refine region_below (by kernel_rfl) (by kernel_rfl) ?_
      repeat (first | go_big_quiet_skip | (go_big_quiet_want; go_big_quiet_op; first | go_big_quiet_on | (refine ⟨_, fun _ _ => rfl, ?_⟩; go_big_quiet_on) | (refine ⟨.agg #[.int .i64 aE, .int .u64 (aH : Nat), .bool aY], ?_, ?_⟩; (focus (intro w' hw'; obtain ⟨a0, a1, a2⟩ := ans_cells (HA.out w' (seq_below bi hw')); simp [a0, a1, a2, Result.andThen]; done)); go_big_quiet_on) | (with_reducible refine ⟨_, (fun w' hw' => (refusal_any 1 w').mono fun _ _ ⟨he, hb⟩ => ⟨he, seq_below hw' hb⟩), ?_⟩; go_big_quiet_on) | (refine ⟨.bool (sameA aE aH aY 1 0 false), ?_, ?_⟩; (focus (intro w' hw'; unfold sameA; by_cases g1 : aE = 1 <;> by_cases g2 : aH = 0 <;> cases aY <;> simp [g1, g2, Result.andThen]; done)); go_big_quiet_on)))
      refine wpQuiet_nil ?_
      intro w8 hb8
      replace bi := seq_below bi hb8
      clear hb8
      go_wp2
      go_ret
      exact ⟨by rw [← hoz.out, le, refO_some]; rfl, ⟨m, by rw [← hoz.out, le, refO_get]; exact ((HM.out _ bi).up (fun i q => .inl q)).more (by omega)⟩, Chg.of_below (seq_below bel bi)⟩
    · have f1 : decide (cN < 0) = false := decide_eq_false g1
      have g2 : C.a < cN := by omega
      have f2 : decide (C.a < cN) = true := decide_eq_true g2
      refine region_below (by kernel_rfl) (by kernel_rfl) ?_
      repeat (first | go_big_quiet_skip | (go_big_quiet_want; go_big_quiet_op; first | go_big_quiet_on | (refine ⟨_, fun _ _ => rfl, ?_⟩; go_big_quiet_on) | (refine ⟨.int .i64 cN, ?_, ?_⟩; (focus (intro w' hw'; obtain ⟨q0, q1, q2, q3, q4⟩ := call_cells (HQ.out w' (seq_below bi hw')); simp [q1, Result.andThen]; done)); go_big_quiet_on) | (refine ⟨.int .i64 C.a, ?_, ?_⟩; (focus (intro w' hw'; obtain ⟨x0, x1, x2, x3, x4, x5, x6, x7, x8⟩ := (HM.out w' (seq_below bi hw')).cells; simp [x1, Result.andThen]; done)); go_big_quiet_on)))
      refine wpQuiet_nil ?_
      intro w8 hb8
      replace bi := seq_below bi hb8
      clear hb8
      go_upto_region 2 with fail
      clear f1 f2
      have le : mkO C X k cN aE aH aY = refO X (sameA aE aH aY 1 0 false) := by unfold mkO; rw [if_pos gN]
      refine region_below (by kernel_rfl) (by kernel_rfl) ?_
      repeat (first | go_big_quiet_skip | (go_big_quiet_want; go_big_quiet_op; first | go_big_quiet_on | (refine ⟨_, fun _ _ => rfl, ?_⟩; go_big_quiet_on) | (refine ⟨.agg #[.int .i64 aE, .int .u64 (aH : Nat), .bool aY], ?_, ?_⟩; (focus (intro w' hw'; obtain ⟨a0, a1, a2⟩ := ans_cells (HA.out w' (seq_below bi hw')); simp [a0, a1, a2, Result.andThen]; done)); go_big_quiet_on) | (with_reducible refine ⟨_, (fun w' hw' => (refusal_any 1 w').mono fun _ _ ⟨he, hb⟩ => ⟨he, seq_below hw' hb⟩), ?_⟩; go_big_quiet_on) | (refine ⟨.bool (sameA aE aH aY 1 0 false), ?_, ?_⟩; (focus (intro w' hw'; unfold sameA; by_cases g1 : aE = 1 <;> by_cases g2 : aH = 0 <;> cases aY <;> simp [g1, g2, Result.andThen]; done)); go_big_quiet_on)))
      refine wpQuiet_nil ?_
      intro w8 hb8
      replace bi := seq_below bi hb8
      clear hb8
      go_wp2
      go_ret
      exact ⟨by rw [← hoz.out, le, refO_some]; rfl, ⟨m, by rw [← hoz.out, le, refO_get]; exact ((HM.out _ bi).up (fun i q => .inl q)).more (by omega)⟩, Chg.of_below (seq_below bel bi)⟩
  · have g1 : ¬ cN < 0 := fun q => gN (.inl q)
    have g2 : ¬ C.a < cN := fun q => gN (.inr q)
    have f1 : decide (cN < 0) = false := decide_eq_false g1
    have f2 : decide (C.a < cN) = false := decide_eq_false g2
    refine region_below (by kernel_rfl) (by kernel_rfl) ?_
    repeat (first | go_big_quiet_skip | (go_big_quiet_want; go_big_quiet_op; first | go_big_quiet_on | (refine ⟨_, fun _ _ => rfl, ?_⟩; go_big_quiet_on) | (refine ⟨.int .i64 cN, ?_, ?_⟩; (focus (intro w' hw'; obtain ⟨q0, q1, q2, q3, q4⟩ := call_cells (HQ.out w' (seq_below bi hw')); simp [q1, Result.andThen]; done)); go_big_quiet_on) | (refine ⟨.int .i64 C.a, ?_, ?_⟩; (focus (intro w' hw'; obtain ⟨x0, x1, x2, x3, x4, x5, x6, x7, x8⟩ := (HM.out w' (seq_below bi hw')).cells; simp [x1, Result.andThen]; done)); go_big_quiet_on)))
    refine wpQuiet_nil ?_
    intro w8 hb8
    replace bi := seq_below bi hb8
    clear hb8
    go_upto_region 3 with fail
    clear f1 f2
    replace g1 := hid1 g1
    replace g2 := hid1 g2
    obtain ⟨rU, hful⟩ : ∃ rU, fullF C X k = rU := ⟨_, rfl⟩
    have cU : Calls Try.prog 67 #[.pointer (some ⟨B, 0, none⟩), .pointer (some ⟨m.Bc, o, none⟩)] w8 fun r w' => r = .returned (.bool (fullF C X k)) ∧ Below w8.heap.size w8 w' := full_any (HM.out _ bi) (HK.out _ bi)
    rw [hful] at cU
    replace cU := hid1 cU
    replace hful := hid1 hful
    cases rU with
    | true =>
      go_upto_region 4 with (go_at_call 67; with_reducible refine cU.out.mono ?_; rintro r w8 ⟨rfl, b⟩; replace bi := seq_below bi b; clear b)
      clear cU
      have le : mkO C X k cN aE aH aY = refO X (sameA aE aH aY 5 0 false) := by unfold mkO; rw [if_neg gN, hful.out, if_pos rfl]
      refine region_below (by kernel_rfl) (by kernel_rfl) ?_
      repeat (first | go_big_quiet_skip | (go_big_quiet_want; go_big_quiet_op; first | go_big_quiet_on | (refine ⟨_, fun _ _ => rfl, ?_⟩; go_big_quiet_on) | (refine ⟨.agg #[.int .i64 aE, .int .u64 (aH : Nat), .bool aY], ?_, ?_⟩; (focus (intro w' hw'; obtain ⟨a0, a1, a2⟩ := ans_cells (HA.out w' (seq_below bi hw')); simp [a0, a1, a2, Result.andThen]; done)); go_big_quiet_on) | (with_reducible refine ⟨_, (fun w' hw' => (refusal_any 5 w').mono fun _ _ ⟨he, hb⟩ => ⟨he, seq_below hw' hb⟩), ?_⟩; go_big_quiet_on) | (refine ⟨.bool (sameA aE aH aY 5 0 false), ?_, ?_⟩; (focus (intro w' hw'; unfold sameA; by_cases g1 : aE = 5 <;> by_cases g2 : aH = 0 <;> cases aY <;> simp [g1, g2, Result.andThen]; done)); go_big_quiet_on)))
      refine wpQuiet_nil ?_
      intro w8 hb8
      replace bi := seq_below bi hb8
      clear hb8
      go_wp2
      go_ret
      exact ⟨by rw [← hoz.out, le, refO_some]; rfl, ⟨m, by rw [← hoz.out, le, refO_get]; exact ((HM.out _ bi).up (fun i q => .inl q)).more (by omega)⟩, Chg.of_below (seq_below bel bi)⟩
    | false =>
      go_upto_region 5 with (go_at_call 67; with_reducible refine cU.out.mono ?_; rintro r w8 ⟨rfl, b⟩; replace bi := seq_below bi b; clear b)
      clear cU
      obtain ⟨r4, h4⟩ : ∃ r, sameA aE aH aY 4 0 false = r := ⟨_, rfl⟩
      replace h4 := hid1 h4
      refine region_below (by kernel_rfl) (by kernel_rfl) ?_
      repeat (first | go_big_quiet_skip | (go_big_quiet_want; go_big_quiet_op; first | go_big_quiet_on | (refine ⟨_, fun _ _ => rfl, ?_⟩; go_big_quiet_on) | (refine ⟨.agg #[.int .i64 aE, .int .u64 (aH : Nat), .bool aY], ?_, ?_⟩; (focus (intro w' hw'; obtain ⟨a0, a1, a2⟩ := ans_cells (HA.out w' (seq_below bi hw')); simp [a0, a1, a2, Result.andThen]; done)); go_big_quiet_on) | (with_reducible refine ⟨_, (fun w' hw' => (refusal_any 4 w').mono fun _ _ ⟨he, hb⟩ => ⟨he, seq_below hw' hb⟩), ?_⟩; go_big_quiet_on) | (refine ⟨.bool r4, ?_, ?_⟩; (focus (intro w' hw'; rw [← h4.out]; unfold sameA; by_cases g1 : aE = 4 <;> by_cases g2 : aH = 0 <;> cases aY <;> simp [g1, g2, Result.andThen]; done)); go_big_quiet_on)))
      refine wpQuiet_nil ?_
      intro w8 hb8
      replace bi := seq_below bi hb8
      clear hb8
      cases r4 with
      | true =>
        have le : mkO C X k cN aE aH aY = some X := by unfold mkO; rw [if_neg gN, hful.out, if_neg (by decide), h4.out]; rfl
        go_wp2
        go_ret
        exact ⟨by rw [← hoz.out, le]; rfl, ⟨m, by rw [← hoz.out, le]; exact ((HM.out _ bi).up (fun i q => .inl q)).more (by omega)⟩, Chg.of_below (seq_below bel bi)⟩
      | false =>
        go_upto_region 7 with fail
        obtain ⟨adN, cpN, hvN⟩ := (HM.out _ bi).vN
        obtain ⟨nF, hnF⟩ : ∃ nF, X.F.length = nF := ⟨_, rfl⟩
        rw [hnF] at hvN
        replace hvN := hid1 hvN
        obtain ⟨w3, hw3⟩ : ∃ w3, World.drew w8 = w3 := ⟨_, rfl⟩
        have b3 : Below w1.heap.size w1 w3 := by rw [← hw3]; exact bi.drew
        have hL3 : ∀ i, L i → i < w3.heap.size := fun i q => Nat.lt_of_lt_of_le (hL.out i q) (Nat.le_trans bel.size b3.size)
        have hnb : nF < 1000000 := by have := iv.out.nF; omega
        have cT := takes_any (HM.out _ b3) hL3 iv.out (by omega) hk.out (nd := (nF : Nat)) (by omega) (by omega) aE hH aY
        rw [ho.out] at cT
        obtain ⟨rG, hG⟩ : ∃ rG, gvB X aE aH aY = rG := ⟨_, rfl⟩
        have hoT : tkO X k (nF : Nat) aE aH aY = if rG = true then some (tkS X k aH (nF : Nat)) else none := by unfold tkO; rw [hG]
        rw [hoT] at cT
        have HS := hid1 (fun (wr : World) (n' : Nat) (X' : Sx) (hm : MdOk wr B L C n' X' m) (qa : wr.heap[ba]? = some (.cells #[.int .i64 aE, .int .u64 (aH : Nat), .bool aY] 39 (0, 0))) => (⟨by have := hm.cells.2.2.2.2.2.2.1; rw [hvN.out] at this; exact this, (ans_cells qa).1, (ans_cells qa).2.1, (ans_cells qa).2.2⟩ : wr.cell? ⟨B, 6, none⟩ = some (.slice adN nF cpN) ∧ wr.cell? ⟨ba, 0, none⟩ = some (.int .i64 aE) ∧ wr.cell? ⟨ba, 1, none⟩ = some (.int .u64 (aH : Nat)) ∧ wr.cell? ⟨ba, 2, none⟩ = some (.bool aY)))
        have s3 := HS.out _ _ _ (HM.out _ b3) (HA.out _ b3)
        have nbq : ¬ L bq := fun q => by have := hL.out _ q; have := hbc.out; omega
        have nba : ¬ L ba := fun q => by have := hL.out _ q; have := hbc.out; have := hba.out; omega
        have sT := fun (w2 : World) (n' : Nat) (X' : Sx) (h2 : MdOk w2 B L C n' X' m) (c2 : Chg L w3 w2) => HS.out w2 _ _ h2 ((c2.block _ (lt_of_block (HA.out _ b3)) nba).trans (HA.out _ b3))
        replace sT := hid1 sT
        replace hoT := hid1 hoT
        replace nbq := hid1 nbq
        replace nba := hid1 nba
        replace hnF := hid1 hnF
        replace hnb := hid1 hnb
        cases rG with
        | false =>
          rw [if_neg (by decide)] at cT
          replace cT := hid1 cT
          refine wp_region_held_drew (S := fun wr => wr.cell? ⟨B, 6, none⟩ = some (.slice adN nF cpN) ∧ wr.cell? ⟨ba, 0, none⟩ = some (.int .i64 aE) ∧ wr.cell? ⟨ba, 1, none⟩ = some (.int .u64 (aH : Nat)) ∧ wr.cell? ⟨ba, 2, none⟩ = some (.bool aY)) (by kernel_rfl) (by rw [hw3]; exact s3) (fun hS1 => ?_)
          clear s3
          rw [hw3] at hS1 ⊢
          refine wpAnyH_take (i := 0) (oi := { dst := some 38, op := Go.Op.move (Go.Operand.tmp 0), type := 60, pos := "does.go:71", after := #[], guard := none }) (v := .pointer (some ⟨B, 0, none⟩)) rfl (by kernel_rfl) (by kernel_rfl) (by kernel_rfl) (fun _ _ _ h => h) (Or.inl ⟨by rfl, fun w hSw => by (try dsimp only at hSw); go_simp⟩) hS1 ?_
          simp only [Act.put, List.setIfInBounds_toArray, List.set_cons_zero, List.set_cons_succ]
          refine wpAnyH_take (i := 1) (oi := { dst := some 39, op := Go.Op.move (Go.Operand.tmp 1), type := 98, pos := "does.go:71", after := #[], guard := none }) (v := .pointer (some ⟨m.Bc, o, none⟩)) rfl (by kernel_rfl) (by kernel_rfl) (by kernel_rfl) (fun _ _ _ h => h) (Or.inl ⟨by rfl, fun w hSw => by (try dsimp only at hSw); go_simp⟩) hS1 ?_
          simp only [Act.put, List.setIfInBounds_toArray, List.set_cons_zero, List.set_cons_succ]
          refine wpAnyH_take (i := 2) (oi := { dst := some 40, op := Go.Op.move (Go.Operand.tmp 0), type := 60, pos := "does.go:71", after := #[], guard := none }) (v := .pointer (some ⟨B, 0, none⟩)) rfl (by kernel_rfl) (by kernel_rfl) (by kernel_rfl) (fun _ _ _ h => h) (Or.inl ⟨by rfl, fun w hSw => by (try dsimp only at hSw); go_simp⟩) hS1 ?_
          simp only [Act.put, List.setIfInBounds_toArray, List.set_cons_zero, List.set_cons_succ]
          refine wpAnyH_take (i := 3) (oi := { dst := some 41, op := Go.Op.nilCheck (Go.Operand.tmp 40), type := 0, pos := "does.go:71", after := #[{ on := 2, ground := Go.Ground.data }], guard := none }) (v := .pointer (some ⟨B, 0, none⟩)) rfl (by kernel_rfl) (by kernel_rfl) (by kernel_rfl) (fun _ _ _ h => h) (Or.inl ⟨by rfl, fun w hSw => by (try dsimp only at hSw); go_simp⟩) hS1 ?_
          simp only [Act.put, List.setIfInBounds_toArray, List.set_cons_zero, List.set_cons_succ]
          refine wpAnyH_take (i := 4) (oi := { dst := some 42, op := Go.Op.fieldAddr 80 (Go.Operand.tmp 41) 1, type := 0, pos := "does.go:71", after := #[{ on := 3, ground := Go.Ground.data }], guard := none }) (v := .pointer (some ⟨B, 6, none⟩)) rfl (by kernel_rfl) (by kernel_rfl) (by kernel_rfl) (fun _ _ _ h => h) (Or.inl ⟨by rfl, fun w hSw => by (try dsimp only at hSw); go_simp⟩) hS1 ?_
          simp only [Act.put, List.setIfInBounds_toArray, List.set_cons_zero, List.set_cons_succ]
          refine wpAnyH_take (i := 5) (oi := { dst := some 43, op := Go.Op.load 50 (Go.Operand.tmp 42), type := 50, pos := "does.go:71", after := #[{ on := 4, ground := Go.Ground.data }], guard := none }) (v := .slice adN nF cpN) rfl (by kernel_rfl) (by kernel_rfl) (by kernel_rfl) (fun _ _ _ h => h) (Or.inl ⟨by rfl, fun w hSw => by (try dsimp only at hSw); go_simp⟩) hS1 ?_
          simp only [Act.put, List.setIfInBounds_toArray, List.set_cons_zero, List.set_cons_succ]
          refine wpAnyH_take (i := 6) (oi := { dst := some 44, op := Go.Op.call { callee := Go.Callee.builtin Go.Builtin.len, args := #[Go.Operand.tmp 43], argTypes := #[50] }, type := 3, pos := "does.go:71", after := #[{ on := 5, ground := Go.Ground.data }], guard := none }) (v := .int .i64 (nF : Nat)) rfl (by kernel_rfl) (by kernel_rfl) (by kernel_rfl) (fun _ _ _ h => h) (Or.inl ⟨by rfl, fun w hSw => by (try dsimp only at hSw); go_simp⟩) hS1 ?_
          simp only [Act.put, List.setIfInBounds_toArray, List.set_cons_zero, List.set_cons_succ]
          refine wpAnyH_take (i := 7) (oi := { dst := some 45, op := Go.Op.load 39 (Go.Operand.tmp 7), type := 39, pos := "does.go:71", after := #[], guard := none }) (v := .agg #[.int .i64 aE, .int .u64 (aH : Nat), .bool aY]) rfl (by kernel_rfl) (by kernel_rfl) (by kernel_rfl) (fun _ _ _ h => h) (Or.inl ⟨by rfl, fun w hSw => by (try dsimp only at hSw); go_simp⟩) hS1 ?_
          simp only [Act.put, List.setIfInBounds_toArray, List.set_cons_zero, List.set_cons_succ]
          refine wpAnyH_ready (rs := [8]) (by kernel_rfl) (by simp) (AllReadyH.cons (o := { dst := some 46, op := Go.Op.call { callee := Go.Callee.value (Go.Operand.func 68), args := #[Go.Operand.tmp 38, Go.Operand.tmp 39, Go.Operand.tmp 44, Go.Operand.tmp 45], argTypes := #[60, 98, 3, 39] }, type := 4, pos := "does.go:71", after := #[{ on := 0, ground := Go.Ground.data }, { on := 1, ground := Go.Ground.data }, { on := 6, ground := Go.Ground.data }, { on := 7, ground := Go.Ground.data }], guard := none }) rfl (fun K hK => ?_) AllReadyH.nil)
          go_simp
          go_at_call 68
          with_reducible refine cT.out.mono ?_
          rintro r w2 ⟨rfl, h2, c2⟩
          (try simp only [])
          have s4 := sT.out _ _ _ h2 c2
          refine hK.out _ _ s4 (fun hS1 => ?_)
          (try simp only [Act.put, List.setIfInBounds_toArray, List.set_cons_zero, List.set_cons_succ])
          clear hK K
          refine wpAnyH_take (i := 9) (oi := { dst := some 47, op := Go.Op.unOp Go.UnOp.not 4 (Go.Operand.tmp 46), type := 4, pos := "does.go:71", after := #[{ on := 8, ground := Go.Ground.data }], guard := none }) (v := .bool true) rfl (by kernel_rfl) (by kernel_rfl) (by kernel_rfl) (fun _ _ _ h => h) (Or.inl ⟨by rfl, fun w hSw => by (try dsimp only at hSw); go_simp⟩) hS1 ?_
          simp only [Act.put, List.setIfInBounds_toArray, List.set_cons_zero, List.set_cons_succ]
          refine wpAnyH_take (i := 10) (oi := { dst := some 37, op := Go.Op.assign (Go.Operand.tmp 47), type := 4, pos := "does.go:71", after := #[{ on := 9, ground := Go.Ground.data }, { on := 8, ground := Go.Ground.chain }], guard := none }) (v := .bool true) rfl (by kernel_rfl) (by kernel_rfl) (by kernel_rfl) (fun _ _ _ h => h) (Or.inl ⟨by rfl, fun w hSw => by (try dsimp only at hSw); go_simp⟩) hS1 ?_
          simp only [Act.put, List.setIfInBounds_toArray, List.set_cons_zero, List.set_cons_succ]
          refine wpAnyH_done (by kernel_rfl) ?_ _
          clear hS1 s4
          have le : mkO C X k cN aE aH aY = none := by unfold mkO; rw [if_neg gN, hful.out, if_neg (by decide), h4.out, if_neg (by decide), hG, if_neg (by decide)]
          go_wp2
          go_ret
          exact ⟨by rw [← hoz.out, le]; rfl, ⟨m, by rw [← hoz.out, le]; exact h2.up (fun i q => .inl q)⟩, (Chg.of_below (seq_below bel b3)).trans (c2.widen (seq_below bel b3))⟩
        | true =>
          rw [if_pos rfl] at cT
          replace cT := hid1 cT
          refine wp_region_held_drew (S := fun wr => wr.cell? ⟨B, 6, none⟩ = some (.slice adN nF cpN) ∧ wr.cell? ⟨ba, 0, none⟩ = some (.int .i64 aE) ∧ wr.cell? ⟨ba, 1, none⟩ = some (.int .u64 (aH : Nat)) ∧ wr.cell? ⟨ba, 2, none⟩ = some (.bool aY)) (by kernel_rfl) (by rw [hw3]; exact s3) (fun hS1 => ?_)
          clear s3
          rw [hw3] at hS1 ⊢
          refine wpAnyH_take (i := 0) (oi := { dst := some 38, op := Go.Op.move (Go.Operand.tmp 0), type := 60, pos := "does.go:71", after := #[], guard := none }) (v := .pointer (some ⟨B, 0, none⟩)) rfl (by kernel_rfl) (by kernel_rfl) (by kernel_rfl) (fun _ _ _ h => h) (Or.inl ⟨by rfl, fun w hSw => by (try dsimp only at hSw); go_simp⟩) hS1 ?_
          simp only [Act.put, List.setIfInBounds_toArray, List.set_cons_zero, List.set_cons_succ]
          refine wpAnyH_take (i := 1) (oi := { dst := some 39, op := Go.Op.move (Go.Operand.tmp 1), type := 98, pos := "does.go:71", after := #[], guard := none }) (v := .pointer (some ⟨m.Bc, o, none⟩)) rfl (by kernel_rfl) (by kernel_rfl) (by kernel_rfl) (fun _ _ _ h => h) (Or.inl ⟨by rfl, fun w hSw => by (try dsimp only at hSw); go_simp⟩) hS1 ?_
          simp only [Act.put, List.setIfInBounds_toArray, List.set_cons_zero, List.set_cons_succ]
          refine wpAnyH_take (i := 2) (oi := { dst := some 40, op := Go.Op.move (Go.Operand.tmp 0), type := 60, pos := "does.go:71", after := #[], guard := none }) (v := .pointer (some ⟨B, 0, none⟩)) rfl (by kernel_rfl) (by kernel_rfl) (by kernel_rfl) (fun _ _ _ h => h) (Or.inl ⟨by rfl, fun w hSw => by (try dsimp only at hSw); go_simp⟩) hS1 ?_
          simp only [Act.put, List.setIfInBounds_toArray, List.set_cons_zero, List.set_cons_succ]
          refine wpAnyH_take (i := 3) (oi := { dst := some 41, op := Go.Op.nilCheck (Go.Operand.tmp 40), type := 0, pos := "does.go:71", after := #[{ on := 2, ground := Go.Ground.data }], guard := none }) (v := .pointer (some ⟨B, 0, none⟩)) rfl (by kernel_rfl) (by kernel_rfl) (by kernel_rfl) (fun _ _ _ h => h) (Or.inl ⟨by rfl, fun w hSw => by (try dsimp only at hSw); go_simp⟩) hS1 ?_
          simp only [Act.put, List.setIfInBounds_toArray, List.set_cons_zero, List.set_cons_succ]
          refine wpAnyH_take (i := 4) (oi := { dst := some 42, op := Go.Op.fieldAddr 80 (Go.Operand.tmp 41) 1, type := 0, pos := "does.go:71", after := #[{ on := 3, ground := Go.Ground.data }], guard := none }) (v := .pointer (some ⟨B, 6, none⟩)) rfl (by kernel_rfl) (by kernel_rfl) (by kernel_rfl) (fun _ _ _ h => h) (Or.inl ⟨by rfl, fun w hSw => by (try dsimp only at hSw); go_simp⟩) hS1 ?_
          simp only [Act.put, List.setIfInBounds_toArray, List.set_cons_zero, List.set_cons_succ]
          refine wpAnyH_take (i := 5) (oi := { dst := some 43, op := Go.Op.load 50 (Go.Operand.tmp 42), type := 50, pos := "does.go:71", after := #[{ on := 4, ground := Go.Ground.data }], guard := none }) (v := .slice adN nF cpN) rfl (by kernel_rfl) (by kernel_rfl) (by kernel_rfl) (fun _ _ _ h => h) (Or.inl ⟨by rfl, fun w hSw => by (try dsimp only at hSw); go_simp⟩) hS1 ?_
          simp only [Act.put, List.setIfInBounds_toArray, List.set_cons_zero, List.set_cons_succ]
          refine wpAnyH_take (i := 6) (oi := { dst := some 44, op := Go.Op.call { callee := Go.Callee.builtin Go.Builtin.len, args := #[Go.Operand.tmp 43], argTypes := #[50] }, type := 3, pos := "does.go:71", after := #[{ on := 5, ground := Go.Ground.data }], guard := none }) (v := .int .i64 (nF : Nat)) rfl (by kernel_rfl) (by kernel_rfl) (by kernel_rfl) (fun _ _ _ h => h) (Or.inl ⟨by rfl, fun w hSw => by (try dsimp only at hSw); go_simp⟩) hS1 ?_
          simp only [Act.put, List.setIfInBounds_toArray, List.set_cons_zero, List.set_cons_succ]
          refine wpAnyH_take (i := 7) (oi := { dst := some 45, op := Go.Op.load 39 (Go.Operand.tmp 7), type := 39, pos := "does.go:71", after := #[], guard := none }) (v := .agg #[.int .i64 aE, .int .u64 (aH : Nat), .bool aY]) rfl (by kernel_rfl) (by kernel_rfl) (by kernel_rfl) (fun _ _ _ h => h) (Or.inl ⟨by rfl, fun w hSw => by (try dsimp only at hSw); go_simp⟩) hS1 ?_
          simp only [Act.put, List.setIfInBounds_toArray, List.set_cons_zero, List.set_cons_succ]
          refine wpAnyH_ready (rs := [8]) (by kernel_rfl) (by simp) (AllReadyH.cons (o := { dst := some 46, op := Go.Op.call { callee := Go.Callee.value (Go.Operand.func 68), args := #[Go.Operand.tmp 38, Go.Operand.tmp 39, Go.Operand.tmp 44, Go.Operand.tmp 45], argTypes := #[60, 98, 3, 39] }, type := 4, pos := "does.go:71", after := #[{ on := 0, ground := Go.Ground.data }, { on := 1, ground := Go.Ground.data }, { on := 6, ground := Go.Ground.data }, { on := 7, ground := Go.Ground.data }], guard := none }) rfl (fun K hK => ?_) AllReadyH.nil)
          go_simp
          go_at_call 68
          with_reducible refine cT.out.mono ?_
          rintro r w2 ⟨rfl, h2, c2⟩
          (try simp only [])
          have s4 := sT.out _ _ _ h2 c2
          refine hK.out _ _ s4 (fun hS1 => ?_)
          (try simp only [Act.put, List.setIfInBounds_toArray, List.set_cons_zero, List.set_cons_succ])
          clear hK K
          refine wpAnyH_take (i := 9) (oi := { dst := some 47, op := Go.Op.unOp Go.UnOp.not 4 (Go.Operand.tmp 46), type := 4, pos := "does.go:71", after := #[{ on := 8, ground := Go.Ground.data }], guard := none }) (v := .bool false) rfl (by kernel_rfl) (by kernel_rfl) (by kernel_rfl) (fun _ _ _ h => h) (Or.inl ⟨by rfl, fun w hSw => by (try dsimp only at hSw); go_simp⟩) hS1 ?_
          simp only [Act.put, List.setIfInBounds_toArray, List.set_cons_zero, List.set_cons_succ]
          refine wpAnyH_take (i := 10) (oi := { dst := some 37, op := Go.Op.assign (Go.Operand.tmp 47), type := 4, pos := "does.go:71", after := #[{ on := 9, ground := Go.Ground.data }, { on := 8, ground := Go.Ground.chain }], guard := none }) (v := .bool false) rfl (by kernel_rfl) (by kernel_rfl) (by kernel_rfl) (fun _ _ _ h => h) (Or.inl ⟨by rfl, fun w hSw => by (try dsimp only at hSw); go_simp⟩) hS1 ?_
          simp only [Act.put, List.setIfInBounds_toArray, List.set_cons_zero, List.set_cons_succ]
          refine wpAnyH_done (by kernel_rfl) ?_ _
          clear hS1 s4
          have le : mkO C X k cN aE aH aY = some (mkS X k cN aH) := by unfold mkO; rw [if_neg gN, hful.out, if_neg (by decide), h4.out, if_neg (by decide), hG, if_pos rfl]
          go_upto_region 9 with fail
          replace hw3 := hid1 hw3
          have hq2 : w2.heap[bq]? = some (.cells #[.int .i64 kd, .int .i64 cN, .int .u64 (cH : Nat), .int .u64 (cX : Nat), .int .u64 (cY : Nat)] 41 (0, 0)) := (c2.block _ (lt_of_block (HQ.out _ b3)) nbq.out).trans (HQ.out _ b3)
          have cc2 := c2.drew
          have h9 : MdOk w2.drew B L C (n + 2) (tkS X k aH (nF : Nat)) m := MdOk.below h2 (Below.refl _ _).drew
          have q9 : w2.drew.heap[bq]? = some (.cells #[.int .i64 kd, .int .i64 cN, .int .u64 (cH : Nat), .int .u64 (cX : Nat), .int .u64 (cY : Nat)] 41 (0, 0)) := hq2
          have ecn : ((cN.toNat : Nat) : Int) = cN := by have := g1.out; omega
          have cB := fun w => bare_any cN.toNat (by have := g2.out; omega) w
          simp only [ecn] at cB
          have hcnb := hid1 (show cN.toNat ≤ 1000 by have := g2.out; omega)
          obtain ⟨cn, hcn⟩ : ∃ cn, cN.toNat = cn := ⟨_, rfl⟩
          rw [hcn] at cB hcnb
          replace cB := hid1 cB
          replace hcn := hid1 hcn
          clear ecn h2 hq2 c2
          refine wp_region_held_drew (S := fun wr => wr.cell? ⟨bq, 1, none⟩ = some (.int .i64 cN)) (by kernel_rfl) (call_cells q9).2.1 (fun hS1 => ?_)
          generalize w2.drew = w9 at *
          have x6 : w9.cell? ⟨B, 6, none⟩ = some (.slice adN nF cpN) := by have := h9.cells.2.2.2.2.2.2.1; rw [hvN.out] at this; exact this
          have lt9 := Nat.le_refl w9.heap.size
          refine wpAnyH_take (i := 0) (oi := { dst := some 48, op := Go.Op.move (Go.Operand.tmp 0), type := 60, pos := "does.go:74", after := #[], guard := none }) (v := .pointer (some ⟨B, 0, none⟩)) rfl (by kernel_rfl) (by kernel_rfl) (by kernel_rfl) (fun _ _ _ h => h) (Or.inl ⟨by rfl, fun w hSw => by (try dsimp only at hSw); go_simp⟩) hS1 ?_
          simp only [Act.put, List.setIfInBounds_toArray, List.set_cons_zero, List.set_cons_succ]
          refine wpAnyH_take (i := 1) (oi := { dst := some 49, op := Go.Op.move (Go.Operand.tmp 0), type := 60, pos := "does.go:74", after := #[], guard := none }) (v := .pointer (some ⟨B, 0, none⟩)) rfl (by kernel_rfl) (by kernel_rfl) (by kernel_rfl) (fun _ _ _ h => h) (Or.inl ⟨by rfl, fun w hSw => by (try dsimp only at hSw); go_simp⟩) hS1 ?_
          simp only [Act.put, List.setIfInBounds_toArray, List.set_cons_zero, List.set_cons_succ]
          refine wpAnyH_take (i := 2) (oi := { dst := some 50, op := Go.Op.nilCheck (Go.Operand.tmp 49), type := 0, pos := "does.go:74", after := #[{ on := 1, ground := Go.Ground.data }], guard := none }) (v := .pointer (some ⟨B, 0, none⟩)) rfl (by kernel_rfl) (by kernel_rfl) (by kernel_rfl) (fun _ _ _ h => h) (Or.inl ⟨by rfl, fun w hSw => by (try dsimp only at hSw); go_simp⟩) hS1 ?_
          simp only [Act.put, List.setIfInBounds_toArray, List.set_cons_zero, List.set_cons_succ]
          refine wpAnyH_take (i := 3) (oi := { dst := some 51, op := Go.Op.fieldAddr 80 (Go.Operand.tmp 50) 1, type := 0, pos := "does.go:74", after := #[{ on := 2, ground := Go.Ground.data }], guard := none }) (v := .pointer (some ⟨B, 6, none⟩)) rfl (by kernel_rfl) (by kernel_rfl) (by kernel_rfl) (fun _ _ _ h => h) (Or.inl ⟨by rfl, fun w hSw => by (try dsimp only at hSw); go_simp⟩) hS1 ?_
          simp only [Act.put, List.setIfInBounds_toArray, List.set_cons_zero, List.set_cons_succ]
          refine wpAnyH_take (i := 5) (oi := { dst := some 53, op := Go.Op.fieldAddr 41 (Go.Operand.tmp 6) 1, type := 0, pos := "does.go:74", after := #[], guard := none }) (v := .pointer (some ⟨bq, 1, none⟩)) rfl (by kernel_rfl) (by kernel_rfl) (by kernel_rfl) (fun _ _ _ h => h) (Or.inl ⟨by rfl, fun w hSw => by (try dsimp only at hSw); go_simp⟩) hS1 ?_
          simp only [Act.put, List.setIfInBounds_toArray, List.set_cons_zero, List.set_cons_succ]
          refine wpAnyH_take (i := 6) (oi := { dst := some 54, op := Go.Op.load 3 (Go.Operand.tmp 53), type := 3, pos := "does.go:74", after := #[{ on := 5, ground := Go.Ground.data }], guard := none }) (v := .int .i64 cN) rfl (by kernel_rfl) (by kernel_rfl) (by kernel_rfl) (fun _ _ _ h => h) (Or.inl ⟨by rfl, fun w hSw => by (try dsimp only at hSw); go_simp⟩) hS1 ?_
          simp only [Act.put, List.setIfInBounds_toArray, List.set_cons_zero, List.set_cons_succ]
          refine wpAnyH_ready (rs := [4, 7]) (by kernel_rfl) (by simp) (AllReadyH.cons (o := { dst := some 52, op := Go.Op.load 50 (Go.Operand.tmp 51), type := 50, pos := "does.go:74", after := #[{ on := 3, ground := Go.Ground.data }], guard := none }) rfl (fun K hK => ?_) (AllReadyH.cons (o := { dst := some 55, op := Go.Op.call { callee := Go.Callee.value (Go.Operand.func 69), args := #[Go.Operand.tmp 54], argTypes := #[3] }, type := 25, pos := "does.go:74", after := #[{ on := 6, ground := Go.Ground.data }], guard := none }) rfl (fun K hK => ?_) AllReadyH.nil))
          · go_simp
            refine hK.out _ _ hS1 (fun hS1 => ?_)
            (try simp only [Act.put, List.setIfInBounds_toArray, List.set_cons_zero, List.set_cons_succ])
            clear hK K
            refine wpAnyH_ready (rs := [7]) (by kernel_rfl) (by simp) (AllReadyH.cons (o := { dst := some 55, op := Go.Op.call { callee := Go.Callee.value (Go.Operand.func 69), args := #[Go.Operand.tmp 54], argTypes := #[3] }, type := 25, pos := "does.go:74", after := #[{ on := 6, ground := Go.Ground.data }], guard := none }) rfl (fun K hK => ?_) AllReadyH.nil)
            go_simp
            go_at_call 69
            with_reducible refine (cB.out _).mono ?_
            rintro r w5 ⟨rfl, hg5, b5⟩
            (try simp only [])
            have h5 := h9.below b5
            have q5 := (b5.block _ (lt_of_block q9)).trans q9
            refine hK.out _ _ (call_cells q5).2.1 (fun hS1 => ?_)
            (try simp only [Act.put, List.setIfInBounds_toArray, List.set_cons_zero, List.set_cons_succ])
            clear hK K
            replace x6 := (b5.cell (p := ⟨B, 6, none⟩) (lt_of_block h9.head)).trans x6
            have hrz := bare_z hg5 hcnb.out
            obtain ⟨gr, hgr⟩ : ∃ gr, w9.heap.size = gr := ⟨_, rfl⟩
            rw [hgr] at hg5 hrz
            (try simp only [hgr])
            refine wpAnyH_ready (rs := [8]) (by kernel_rfl) (by simp) (AllReadyH.cons (o := { dst := some 56, op := Go.Op.buildSlice 50 1 #[(0, Go.Operand.tmp 55)], type := 50, pos := "does.go:74", after := #[{ on := 7, ground := Go.Ground.data }], guard := none }) rfl (fun K hK => ?_) AllReadyH.nil)
            go_simp
            have b6 := alloc_below w5 (.cells #[.slice (some ⟨gr, 0, none⟩) cn cn] 25)
            have h6 := h5.below b6
            have q6 := (b6.block _ (lt_of_block q5)).trans q5
            have n6 := new_obj w5 (.cells #[.slice (some ⟨gr, 0, none⟩) cn cn] 25)
            have hrz6 := hrz.below b6
            obtain ⟨bw, hbw⟩ : ∃ bw, w5.heap.size = bw := ⟨_, rfl⟩
            rw [hbw] at n6
            replace x6 := (b6.cell (p := ⟨B, 6, none⟩) (lt_of_block h5.head)).trans x6
            refine hK.out _ _ (call_cells q6).2.1 (fun hS1 => ?_)
            (try simp only [Act.put, List.setIfInBounds_toArray, List.set_cons_zero, List.set_cons_succ])
            (try simp only [hbw])
            clear hK K
            have b56 := seq_below b5 b6
            generalize World.alloc _ _ = w6 at *
            refine wpAnyH_ready (rs := [9]) (by kernel_rfl) (by simp) (AllReadyH.cons (o := { dst := some 57, op := Go.Op.call { callee := Go.Callee.builtin Go.Builtin.append, args := #[Go.Operand.tmp 52, Go.Operand.tmp 56], argTypes := #[50, 50] }, type := 50, pos := "does.go:74", after := #[{ on := 4, ground := Go.Ground.data }, { on := 8, ground := Go.Ground.data }, { on := 7, ground := Go.Ground.chain }], guard := none }) rfl (fun K hK => ?_) AllReadyH.nil)
            have hb6 : w6.cell? ⟨bw, 0, none⟩ = some (.slice (some ⟨gr, 0, none⟩) cn cn) := by simp [World.cell?, n6]
            have hnd := h6.nodes
            rw [hvN.out, show (tkS X k aH (nF : Nat)).F.length = nF from hnF.out] at hnd
            refine step_append_rows rfl _ _ rfl _ nF m.rows rfl hnd bw _ rfl hb6 rfl hnb.out ?_
            intro v7 w7 own7 gw7 hv7
            have head7 : w7.heap[B]? = w6.heap[B]? := gw7.block B (lt_of_block h6.head) (fun e => by
              obtain ⟨c, hc⟩ := own_cells hnd e.symm
              exact ne_cells h6.head hc (by decide) rfl)
            have x7 : w7.cell? ⟨B, 6, none⟩ = some (.slice adN nF cpN) := (World.cell?_of_block (a := ⟨B, 6, none⟩) head7).trans x6
            have f7 : w7.frozen? ⟨B, 6, none⟩ = false := cells_free (head7.trans h6.head) 6
            have q7 : w7.heap[bq]? = some (.cells #[.int .i64 kd, .int .i64 cN, .int .u64 (cH : Nat), .int .u64 (cX : Nat), .int .u64 (cY : Nat)] 41 (0, 0)) := (gw7.block bq (lt_of_block q6) (fun e => by
              obtain ⟨c, hc⟩ := own_cells hnd e.symm
              exact ne_cells q6 hc (by decide) rfl)).trans q6
            refine hK.out _ _ (call_cells q7).2.1 (fun hS1 => ?_)
            (try simp only [Act.put, List.setIfInBounds_toArray, List.set_cons_zero, List.set_cons_succ])
            clear hK K
            obtain ⟨ad7, cp7, hvv7⟩ := own_form own7
            subst hvv7
            refine wpAnyH_take (i := 10) (oi := { dst := some 58, op := Go.Op.nilCheck (Go.Operand.tmp 48), type := 0, pos := "does.go:74", after := #[{ on := 0, ground := Go.Ground.data }, { on := 0, ground := Go.Ground.phase }, { on := 1, ground := Go.Ground.phase }, { on := 2, ground := Go.Ground.phase }, { on := 3, ground := Go.Ground.phase }, { on := 4, ground := Go.Ground.phase }, { on := 5, ground := Go.Ground.phase }, { on := 6, ground := Go.Ground.phase }, { on := 7, ground := Go.Ground.phase }, { on := 8, ground := Go.Ground.phase }, { on := 9, ground := Go.Ground.phase }], guard := none }) (v := .pointer (some ⟨B, 0, none⟩)) rfl (by kernel_rfl) (by kernel_rfl) (by kernel_rfl) (fun _ _ _ h => h) (Or.inl ⟨by rfl, fun w hSw => by (try dsimp only at hSw); go_simp⟩) hS1 ?_
            simp only [Act.put, List.setIfInBounds_toArray, List.set_cons_zero, List.set_cons_succ]
            refine wpAnyH_take (i := 11) (oi := { dst := some 59, op := Go.Op.fieldAddr 80 (Go.Operand.tmp 58) 1, type := 0, pos := "does.go:74", after := #[{ on := 10, ground := Go.Ground.data }, { on := 0, ground := Go.Ground.phase }, { on := 1, ground := Go.Ground.phase }, { on := 2, ground := Go.Ground.phase }, { on := 3, ground := Go.Ground.phase }, { on := 4, ground := Go.Ground.phase }, { on := 5, ground := Go.Ground.phase }, { on := 6, ground := Go.Ground.phase }, { on := 7, ground := Go.Ground.phase }, { on := 8, ground := Go.Ground.phase }, { on := 9, ground := Go.Ground.phase }], guard := none }) (v := .pointer (some ⟨B, 6, none⟩)) rfl (by kernel_rfl) (by kernel_rfl) (by kernel_rfl) (fun _ _ _ h => h) (Or.inl ⟨by rfl, fun w hSw => by (try dsimp only at hSw); go_simp⟩) hS1 ?_
            simp only [Act.put, List.setIfInBounds_toArray, List.set_cons_zero, List.set_cons_succ]
            refine wpAnyH_ready (rs := [12]) (by kernel_rfl) (by simp) (AllReadyH.cons (o := { dst := none, op := Go.Op.store 50 (Go.Operand.tmp 59) (Go.Operand.tmp 57), type := 0, pos := "does.go:74", after := #[{ on := 11, ground := Go.Ground.data }, { on := 9, ground := Go.Ground.data }, { on := 9, ground := Go.Ground.chain }, { on := 0, ground := Go.Ground.phase }, { on := 1, ground := Go.Ground.phase }, { on := 2, ground := Go.Ground.phase }, { on := 3, ground := Go.Ground.phase }, { on := 4, ground := Go.Ground.phase }, { on := 5, ground := Go.Ground.phase }, { on := 6, ground := Go.Ground.phase }, { on := 7, ground := Go.Ground.phase }, { on := 8, ground := Go.Ground.phase }, { on := 9, ground := Go.Ground.phase }], guard := none }) rfl (fun K hK => ?_) AllReadyH.nil)
            go_simp
            have nqB : bq ≠ B := fun e => by have := hL.out _ (h6.LB.1); have := hbc.out; omega
            have hq8 : (w7.setCell ⟨B, 6, none⟩ (.slice ad7 (nF + 1) cp7)).heap[bq]? = some (.cells #[.int .i64 kd, .int .i64 cN, .int .u64 (cH : Nat), .int .u64 (cX : Nat), .int .u64 (cY : Nat)] 41 (0, 0)) := (Below.heap_setCell _ ⟨B, 6, none⟩ _ _ nqB).trans q7
            refine hK.out _ _ (call_cells hq8).2.1 (fun hS1 => ?_)
            (try simp only [Act.put, List.setIfInBounds_toArray, List.set_cons_zero, List.set_cons_succ])
            clear hK K
            refine wpAnyH_done (by kernel_rfl) ?_ _
            clear hS1
            have lw : w.heap.size ≤ w9.heap.size := Nat.le_trans (Nat.le_trans bel.size b3.size) cc2.size
            have sz6 := b56.size
            have sz7 : w6.heap.size ≤ (w7.setCell ⟨B, 6, none⟩ (.slice ad7 (nF + 1) cp7)).heap.size := by simpa [World.setCell] using gw7.size
            have lt7 : ∀ g, (Value.slice ad7 (nF + 1) cp7).ownBlock = some g → g < (w7.setCell ⟨B, 6, none⟩ (.slice ad7 (nF + 1) cp7)).heap.size := fun g hg => by simpa [World.setCell] using (own7.lt g hg).2
            have old : ∀ g, L g → g < w9.heap.size := fun g hg => Nat.lt_of_lt_of_le (hL.out g hg) lw
            have grlt : gr < w6.heap.size := by obtain ⟨c, hc⟩ := hrz6.cells (g := gr) rfl; exact lt_of_block hc
            have hp9 := h6.push (L' := Lup L w (w7.setCell ⟨B, 6, none⟩ (.slice ad7 (nF + 1) cp7))) hrz6 (gr := gr) rfl
              ⟨fun r' hr' e => by have := old gr (h6.LR r' hr' gr e); omega, fun j hj e => by have := old gr (h6.LM j hj gr e); omega⟩
              (by show World.ownsRow _ 0 _ 1 _ ((tkS X k aH (nF : Nat)).F.length + 1) _; rw [show (tkS X k aH (nF : Nat)).F.length = nF from hnF.out]; exact own7) (by rw [hvN.out]; exact gw7) (fun i q => .inl q) (.inr ⟨by omega, by omega⟩)
              (fun g hg => by
                rcases hv7 with e | e
                · exact .inl (h6.LN g (by rw [hvN.out]; exact e.symm.trans hg))
                · rw [e] at hg; obtain rfl := Option.some.inj hg; exact .inr ⟨by omega, lt7 _ e⟩)
            have eX : { tkS X k aH (nF : Nat) with F := (tkS X k aH (nF : Nat)).F ++ [List.replicate cn (-1)] } = mkS X k cN aH := by
              unfold mkS
              rw [hcn.out, hnF.out]
              rfl
            rw [eX] at hp9
            have c6 : Chg L w3 w6 := cc2.then_below b56
            have c7 : Chg L w3 (w7.setCell ⟨B, 6, none⟩ (.slice ad7 (nF + 1) cp7)) := (c6.grown gw7 (fun x hx => .inl (h6.LN x (by rw [hvN.out]; exact hx)))).setCell (.inl h6.LB.1) _
            go_wp2
            go_ret
            exact ⟨by rw [← hoz.out, le]; rfl, ⟨_, by rw [← hoz.out, le]; exact hp9⟩, (Chg.of_below (seq_below bel b3)).trans (c7.widen (seq_below bel b3))⟩
          · go_simp
            go_at_call 69
            with_reducible refine (cB.out _).mono ?_
            rintro r w5 ⟨rfl, hg5, b5⟩
            (try simp only [])
            have h5 := h9.below b5
            have q5 := (b5.block _ (lt_of_block q9)).trans q9
            refine hK.out _ _ (call_cells q5).2.1 (fun hS1 => ?_)
            (try simp only [Act.put, List.setIfInBounds_toArray, List.set_cons_zero, List.set_cons_succ])
            clear hK K
            replace x6 := (b5.cell (p := ⟨B, 6, none⟩) (lt_of_block h9.head)).trans x6
            have hrz := bare_z hg5 hcnb.out
            obtain ⟨gr, hgr⟩ : ∃ gr, w9.heap.size = gr := ⟨_, rfl⟩
            rw [hgr] at hg5 hrz
            (try simp only [hgr])
            refine wpAnyH_ready (rs := [4, 8]) (by kernel_rfl) (by simp) (AllReadyH.cons (o := { dst := some 52, op := Go.Op.load 50 (Go.Operand.tmp 51), type := 50, pos := "does.go:74", after := #[{ on := 3, ground := Go.Ground.data }], guard := none }) rfl (fun K hK => ?_) (AllReadyH.cons (o := { dst := some 56, op := Go.Op.buildSlice 50 1 #[(0, Go.Operand.tmp 55)], type := 50, pos := "does.go:74", after := #[{ on := 7, ground := Go.Ground.data }], guard := none }) rfl (fun K hK => ?_) AllReadyH.nil))
            · go_simp
              refine hK.out _ _ hS1 (fun hS1 => ?_)
              (try simp only [Act.put, List.setIfInBounds_toArray, List.set_cons_zero, List.set_cons_succ])
              clear hK K
              refine wpAnyH_ready (rs := [8]) (by kernel_rfl) (by simp) (AllReadyH.cons (o := { dst := some 56, op := Go.Op.buildSlice 50 1 #[(0, Go.Operand.tmp 55)], type := 50, pos := "does.go:74", after := #[{ on := 7, ground := Go.Ground.data }], guard := none }) rfl (fun K hK => ?_) AllReadyH.nil)
              go_simp
              have b6 := alloc_below w5 (.cells #[.slice (some ⟨gr, 0, none⟩) cn cn] 25)
              have h6 := h5.below b6
              have q6 := (b6.block _ (lt_of_block q5)).trans q5
              have n6 := new_obj w5 (.cells #[.slice (some ⟨gr, 0, none⟩) cn cn] 25)
              have hrz6 := hrz.below b6
              obtain ⟨bw, hbw⟩ : ∃ bw, w5.heap.size = bw := ⟨_, rfl⟩
              rw [hbw] at n6
              replace x6 := (b6.cell (p := ⟨B, 6, none⟩) (lt_of_block h5.head)).trans x6
              refine hK.out _ _ (call_cells q6).2.1 (fun hS1 => ?_)
              (try simp only [Act.put, List.setIfInBounds_toArray, List.set_cons_zero, List.set_cons_succ])
              (try simp only [hbw])
              clear hK K
              have b56 := seq_below b5 b6
              generalize World.alloc _ _ = w6 at *
              refine wpAnyH_ready (rs := [9]) (by kernel_rfl) (by simp) (AllReadyH.cons (o := { dst := some 57, op := Go.Op.call { callee := Go.Callee.builtin Go.Builtin.append, args := #[Go.Operand.tmp 52, Go.Operand.tmp 56], argTypes := #[50, 50] }, type := 50, pos := "does.go:74", after := #[{ on := 4, ground := Go.Ground.data }, { on := 8, ground := Go.Ground.data }, { on := 7, ground := Go.Ground.chain }], guard := none }) rfl (fun K hK => ?_) AllReadyH.nil)
              have hb6 : w6.cell? ⟨bw, 0, none⟩ = some (.slice (some ⟨gr, 0, none⟩) cn cn) := by simp [World.cell?, n6]
              have hnd := h6.nodes
              rw [hvN.out, show (tkS X k aH (nF : Nat)).F.length = nF from hnF.out] at hnd
              refine step_append_rows rfl _ _ rfl _ nF m.rows rfl hnd bw _ rfl hb6 rfl hnb.out ?_
              intro v7 w7 own7 gw7 hv7
              have head7 : w7.heap[B]? = w6.heap[B]? := gw7.block B (lt_of_block h6.head) (fun e => by
                obtain ⟨c, hc⟩ := own_cells hnd e.symm
                exact ne_cells h6.head hc (by decide) rfl)
              have x7 : w7.cell? ⟨B, 6, none⟩ = some (.slice adN nF cpN) := (World.cell?_of_block (a := ⟨B, 6, none⟩) head7).trans x6
              have f7 : w7.frozen? ⟨B, 6, none⟩ = false := cells_free (head7.trans h6.head) 6
              have q7 : w7.heap[bq]? = some (.cells #[.int .i64 kd, .int .i64 cN, .int .u64 (cH : Nat), .int .u64 (cX : Nat), .int .u64 (cY : Nat)] 41 (0, 0)) := (gw7.block bq (lt_of_block q6) (fun e => by
                obtain ⟨c, hc⟩ := own_cells hnd e.symm
                exact ne_cells q6 hc (by decide) rfl)).trans q6
              refine hK.out _ _ (call_cells q7).2.1 (fun hS1 => ?_)
              (try simp only [Act.put, List.setIfInBounds_toArray, List.set_cons_zero, List.set_cons_succ])
              clear hK K
              obtain ⟨ad7, cp7, hvv7⟩ := own_form own7
              subst hvv7
              refine wpAnyH_take (i := 10) (oi := { dst := some 58, op := Go.Op.nilCheck (Go.Operand.tmp 48), type := 0, pos := "does.go:74", after := #[{ on := 0, ground := Go.Ground.data }, { on := 0, ground := Go.Ground.phase }, { on := 1, ground := Go.Ground.phase }, { on := 2, ground := Go.Ground.phase }, { on := 3, ground := Go.Ground.phase }, { on := 4, ground := Go.Ground.phase }, { on := 5, ground := Go.Ground.phase }, { on := 6, ground := Go.Ground.phase }, { on := 7, ground := Go.Ground.phase }, { on := 8, ground := Go.Ground.phase }, { on := 9, ground := Go.Ground.phase }], guard := none }) (v := .pointer (some ⟨B, 0, none⟩)) rfl (by kernel_rfl) (by kernel_rfl) (by kernel_rfl) (fun _ _ _ h => h) (Or.inl ⟨by rfl, fun w hSw => by (try dsimp only at hSw); go_simp⟩) hS1 ?_
              simp only [Act.put, List.setIfInBounds_toArray, List.set_cons_zero, List.set_cons_succ]
              refine wpAnyH_take (i := 11) (oi := { dst := some 59, op := Go.Op.fieldAddr 80 (Go.Operand.tmp 58) 1, type := 0, pos := "does.go:74", after := #[{ on := 10, ground := Go.Ground.data }, { on := 0, ground := Go.Ground.phase }, { on := 1, ground := Go.Ground.phase }, { on := 2, ground := Go.Ground.phase }, { on := 3, ground := Go.Ground.phase }, { on := 4, ground := Go.Ground.phase }, { on := 5, ground := Go.Ground.phase }, { on := 6, ground := Go.Ground.phase }, { on := 7, ground := Go.Ground.phase }, { on := 8, ground := Go.Ground.phase }, { on := 9, ground := Go.Ground.phase }], guard := none }) (v := .pointer (some ⟨B, 6, none⟩)) rfl (by kernel_rfl) (by kernel_rfl) (by kernel_rfl) (fun _ _ _ h => h) (Or.inl ⟨by rfl, fun w hSw => by (try dsimp only at hSw); go_simp⟩) hS1 ?_
              simp only [Act.put, List.setIfInBounds_toArray, List.set_cons_zero, List.set_cons_succ]
              refine wpAnyH_ready (rs := [12]) (by kernel_rfl) (by simp) (AllReadyH.cons (o := { dst := none, op := Go.Op.store 50 (Go.Operand.tmp 59) (Go.Operand.tmp 57), type := 0, pos := "does.go:74", after := #[{ on := 11, ground := Go.Ground.data }, { on := 9, ground := Go.Ground.data }, { on := 9, ground := Go.Ground.chain }, { on := 0, ground := Go.Ground.phase }, { on := 1, ground := Go.Ground.phase }, { on := 2, ground := Go.Ground.phase }, { on := 3, ground := Go.Ground.phase }, { on := 4, ground := Go.Ground.phase }, { on := 5, ground := Go.Ground.phase }, { on := 6, ground := Go.Ground.phase }, { on := 7, ground := Go.Ground.phase }, { on := 8, ground := Go.Ground.phase }, { on := 9, ground := Go.Ground.phase }], guard := none }) rfl (fun K hK => ?_) AllReadyH.nil)
              go_simp
              have nqB : bq ≠ B := fun e => by have := hL.out _ (h6.LB.1); have := hbc.out; omega
              have hq8 : (w7.setCell ⟨B, 6, none⟩ (.slice ad7 (nF + 1) cp7)).heap[bq]? = some (.cells #[.int .i64 kd, .int .i64 cN, .int .u64 (cH : Nat), .int .u64 (cX : Nat), .int .u64 (cY : Nat)] 41 (0, 0)) := (Below.heap_setCell _ ⟨B, 6, none⟩ _ _ nqB).trans q7
              refine hK.out _ _ (call_cells hq8).2.1 (fun hS1 => ?_)
              (try simp only [Act.put, List.setIfInBounds_toArray, List.set_cons_zero, List.set_cons_succ])
              clear hK K
              refine wpAnyH_done (by kernel_rfl) ?_ _
              clear hS1
              have lw : w.heap.size ≤ w9.heap.size := Nat.le_trans (Nat.le_trans bel.size b3.size) cc2.size
              have sz6 := b56.size
              have sz7 : w6.heap.size ≤ (w7.setCell ⟨B, 6, none⟩ (.slice ad7 (nF + 1) cp7)).heap.size := by simpa [World.setCell] using gw7.size
              have lt7 : ∀ g, (Value.slice ad7 (nF + 1) cp7).ownBlock = some g → g < (w7.setCell ⟨B, 6, none⟩ (.slice ad7 (nF + 1) cp7)).heap.size := fun g hg => by simpa [World.setCell] using (own7.lt g hg).2
              have old : ∀ g, L g → g < w9.heap.size := fun g hg => Nat.lt_of_lt_of_le (hL.out g hg) lw
              have grlt : gr < w6.heap.size := by obtain ⟨c, hc⟩ := hrz6.cells (g := gr) rfl; exact lt_of_block hc
              have hp9 := h6.push (L' := Lup L w (w7.setCell ⟨B, 6, none⟩ (.slice ad7 (nF + 1) cp7))) hrz6 (gr := gr) rfl
                ⟨fun r' hr' e => by have := old gr (h6.LR r' hr' gr e); omega, fun j hj e => by have := old gr (h6.LM j hj gr e); omega⟩
                (by show World.ownsRow _ 0 _ 1 _ ((tkS X k aH (nF : Nat)).F.length + 1) _; rw [show (tkS X k aH (nF : Nat)).F.length = nF from hnF.out]; exact own7) (by rw [hvN.out]; exact gw7) (fun i q => .inl q) (.inr ⟨by omega, by omega⟩)
                (fun g hg => by
                  rcases hv7 with e | e
                  · exact .inl (h6.LN g (by rw [hvN.out]; exact e.symm.trans hg))
                  · rw [e] at hg; obtain rfl := Option.some.inj hg; exact .inr ⟨by omega, lt7 _ e⟩)
              have eX : { tkS X k aH (nF : Nat) with F := (tkS X k aH (nF : Nat)).F ++ [List.replicate cn (-1)] } = mkS X k cN aH := by
                unfold mkS
                rw [hcn.out, hnF.out]
                rfl
              rw [eX] at hp9
              have c6 : Chg L w3 w6 := cc2.then_below b56
              have c7 : Chg L w3 (w7.setCell ⟨B, 6, none⟩ (.slice ad7 (nF + 1) cp7)) := (c6.grown gw7 (fun x hx => .inl (h6.LN x (by rw [hvN.out]; exact hx)))).setCell (.inl h6.LB.1) _
              go_wp2
              go_ret
              exact ⟨by rw [← hoz.out, le]; rfl, ⟨_, by rw [← hoz.out, le]; exact hp9⟩, (Chg.of_below (seq_below bel b3)).trans (c7.widen (seq_below bel b3))⟩
            · go_simp
              have b6 := alloc_below w5 (.cells #[.slice (some ⟨gr, 0, none⟩) cn cn] 25)
              have h6 := h5.below b6
              have q6 := (b6.block _ (lt_of_block q5)).trans q5
              have n6 := new_obj w5 (.cells #[.slice (some ⟨gr, 0, none⟩) cn cn] 25)
              have hrz6 := hrz.below b6
              obtain ⟨bw, hbw⟩ : ∃ bw, w5.heap.size = bw := ⟨_, rfl⟩
              rw [hbw] at n6
              replace x6 := (b6.cell (p := ⟨B, 6, none⟩) (lt_of_block h5.head)).trans x6
              refine hK.out _ _ (call_cells q6).2.1 (fun hS1 => ?_)
              (try simp only [Act.put, List.setIfInBounds_toArray, List.set_cons_zero, List.set_cons_succ])
              (try simp only [hbw])
              clear hK K
              have b56 := seq_below b5 b6
              generalize World.alloc _ _ = w6 at *
              refine wpAnyH_ready (rs := [4]) (by kernel_rfl) (by simp) (AllReadyH.cons (o := { dst := some 52, op := Go.Op.load 50 (Go.Operand.tmp 51), type := 50, pos := "does.go:74", after := #[{ on := 3, ground := Go.Ground.data }], guard := none }) rfl (fun K hK => ?_) AllReadyH.nil)
              go_simp
              refine hK.out _ _ hS1 (fun hS1 => ?_)
              (try simp only [Act.put, List.setIfInBounds_toArray, List.set_cons_zero, List.set_cons_succ])
              clear hK K
              refine wpAnyH_ready (rs := [9]) (by kernel_rfl) (by simp) (AllReadyH.cons (o := { dst := some 57, op := Go.Op.call { callee := Go.Callee.builtin Go.Builtin.append, args := #[Go.Operand.tmp 52, Go.Operand.tmp 56], argTypes := #[50, 50] }, type := 50, pos := "does.go:74", after := #[{ on := 4, ground := Go.Ground.data }, { on := 8, ground := Go.Ground.data }, { on := 7, ground := Go.Ground.chain }], guard := none }) rfl (fun K hK => ?_) AllReadyH.nil)
              have hb6 : w6.cell? ⟨bw, 0, none⟩ = some (.slice (some ⟨gr, 0, none⟩) cn cn) := by simp [World.cell?, n6]
              have hnd := h6.nodes
              rw [hvN.out, show (tkS X k aH (nF : Nat)).F.length = nF from hnF.out] at hnd
              refine step_append_rows rfl _ _ rfl _ nF m.rows rfl hnd bw _ rfl hb6 rfl hnb.out ?_
              intro v7 w7 own7 gw7 hv7
              have head7 : w7.heap[B]? = w6.heap[B]? := gw7.block B (lt_of_block h6.head) (fun e => by
                obtain ⟨c, hc⟩ := own_cells hnd e.symm
                exact ne_cells h6.head hc (by decide) rfl)
              have x7 : w7.cell? ⟨B, 6, none⟩ = some (.slice adN nF cpN) := (World.cell?_of_block (a := ⟨B, 6, none⟩) head7).trans x6
              have f7 : w7.frozen? ⟨B, 6, none⟩ = false := cells_free (head7.trans h6.head) 6
              have q7 : w7.heap[bq]? = some (.cells #[.int .i64 kd, .int .i64 cN, .int .u64 (cH : Nat), .int .u64 (cX : Nat), .int .u64 (cY : Nat)] 41 (0, 0)) := (gw7.block bq (lt_of_block q6) (fun e => by
                obtain ⟨c, hc⟩ := own_cells hnd e.symm
                exact ne_cells q6 hc (by decide) rfl)).trans q6
              refine hK.out _ _ (call_cells q7).2.1 (fun hS1 => ?_)
              (try simp only [Act.put, List.setIfInBounds_toArray, List.set_cons_zero, List.set_cons_succ])
              clear hK K
              obtain ⟨ad7, cp7, hvv7⟩ := own_form own7
              subst hvv7
              refine wpAnyH_take (i := 10) (oi := { dst := some 58, op := Go.Op.nilCheck (Go.Operand.tmp 48), type := 0, pos := "does.go:74", after := #[{ on := 0, ground := Go.Ground.data }, { on := 0, ground := Go.Ground.phase }, { on := 1, ground := Go.Ground.phase }, { on := 2, ground := Go.Ground.phase }, { on := 3, ground := Go.Ground.phase }, { on := 4, ground := Go.Ground.phase }, { on := 5, ground := Go.Ground.phase }, { on := 6, ground := Go.Ground.phase }, { on := 7, ground := Go.Ground.phase }, { on := 8, ground := Go.Ground.phase }, { on := 9, ground := Go.Ground.phase }], guard := none }) (v := .pointer (some ⟨B, 0, none⟩)) rfl (by kernel_rfl) (by kernel_rfl) (by kernel_rfl) (fun _ _ _ h => h) (Or.inl ⟨by rfl, fun w hSw => by (try dsimp only at hSw); go_simp⟩) hS1 ?_
              simp only [Act.put, List.setIfInBounds_toArray, List.set_cons_zero, List.set_cons_succ]
              refine wpAnyH_take (i := 11) (oi := { dst := some 59, op := Go.Op.fieldAddr 80 (Go.Operand.tmp 58) 1, type := 0, pos := "does.go:74", after := #[{ on := 10, ground := Go.Ground.data }, { on := 0, ground := Go.Ground.phase }, { on := 1, ground := Go.Ground.phase }, { on := 2, ground := Go.Ground.phase }, { on := 3, ground := Go.Ground.phase }, { on := 4, ground := Go.Ground.phase }, { on := 5, ground := Go.Ground.phase }, { on := 6, ground := Go.Ground.phase }, { on := 7, ground := Go.Ground.phase }, { on := 8, ground := Go.Ground.phase }, { on := 9, ground := Go.Ground.phase }], guard := none }) (v := .pointer (some ⟨B, 6, none⟩)) rfl (by kernel_rfl) (by kernel_rfl) (by kernel_rfl) (fun _ _ _ h => h) (Or.inl ⟨by rfl, fun w hSw => by (try dsimp only at hSw); go_simp⟩) hS1 ?_
              simp only [Act.put, List.setIfInBounds_toArray, List.set_cons_zero, List.set_cons_succ]
              refine wpAnyH_ready (rs := [12]) (by kernel_rfl) (by simp) (AllReadyH.cons (o := { dst := none, op := Go.Op.store 50 (Go.Operand.tmp 59) (Go.Operand.tmp 57), type := 0, pos := "does.go:74", after := #[{ on := 11, ground := Go.Ground.data }, { on := 9, ground := Go.Ground.data }, { on := 9, ground := Go.Ground.chain }, { on := 0, ground := Go.Ground.phase }, { on := 1, ground := Go.Ground.phase }, { on := 2, ground := Go.Ground.phase }, { on := 3, ground := Go.Ground.phase }, { on := 4, ground := Go.Ground.phase }, { on := 5, ground := Go.Ground.phase }, { on := 6, ground := Go.Ground.phase }, { on := 7, ground := Go.Ground.phase }, { on := 8, ground := Go.Ground.phase }, { on := 9, ground := Go.Ground.phase }], guard := none }) rfl (fun K hK => ?_) AllReadyH.nil)
              go_simp
              have nqB : bq ≠ B := fun e => by have := hL.out _ (h6.LB.1); have := hbc.out; omega
              have hq8 : (w7.setCell ⟨B, 6, none⟩ (.slice ad7 (nF + 1) cp7)).heap[bq]? = some (.cells #[.int .i64 kd, .int .i64 cN, .int .u64 (cH : Nat), .int .u64 (cX : Nat), .int .u64 (cY : Nat)] 41 (0, 0)) := (Below.heap_setCell _ ⟨B, 6, none⟩ _ _ nqB).trans q7
              refine hK.out _ _ (call_cells hq8).2.1 (fun hS1 => ?_)
              (try simp only [Act.put, List.setIfInBounds_toArray, List.set_cons_zero, List.set_cons_succ])
              clear hK K
              refine wpAnyH_done (by kernel_rfl) ?_ _
              clear hS1
              have lw : w.heap.size ≤ w9.heap.size := Nat.le_trans (Nat.le_trans bel.size b3.size) cc2.size
              have sz6 := b56.size
              have sz7 : w6.heap.size ≤ (w7.setCell ⟨B, 6, none⟩ (.slice ad7 (nF + 1) cp7)).heap.size := by simpa [World.setCell] using gw7.size
              have lt7 : ∀ g, (Value.slice ad7 (nF + 1) cp7).ownBlock = some g → g < (w7.setCell ⟨B, 6, none⟩ (.slice ad7 (nF + 1) cp7)).heap.size := fun g hg => by simpa [World.setCell] using (own7.lt g hg).2
              have old : ∀ g, L g → g < w9.heap.size := fun g hg => Nat.lt_of_lt_of_le (hL.out g hg) lw
              have grlt : gr < w6.heap.size := by obtain ⟨c, hc⟩ := hrz6.cells (g := gr) rfl; exact lt_of_block hc
              have hp9 := h6.push (L' := Lup L w (w7.setCell ⟨B, 6, none⟩ (.slice ad7 (nF + 1) cp7))) hrz6 (gr := gr) rfl
                ⟨fun r' hr' e => by have := old gr (h6.LR r' hr' gr e); omega, fun j hj e => by have := old gr (h6.LM j hj gr e); omega⟩
                (by show World.ownsRow _ 0 _ 1 _ ((tkS X k aH (nF : Nat)).F.length + 1) _; rw [show (tkS X k aH (nF : Nat)).F.length = nF from hnF.out]; exact own7) (by rw [hvN.out]; exact gw7) (fun i q => .inl q) (.inr ⟨by omega, by omega⟩)
                (fun g hg => by
                  rcases hv7 with e | e
                  · exact .inl (h6.LN g (by rw [hvN.out]; exact e.symm.trans hg))
                  · rw [e] at hg; obtain rfl := Option.some.inj hg; exact .inr ⟨by omega, lt7 _ e⟩)
              have eX : { tkS X k aH (nF : Nat) with F := (tkS X k aH (nF : Nat)).F ++ [List.replicate cn (-1)] } = mkS X k cN aH := by
                unfold mkS
                rw [hcn.out, hnF.out]
                rfl
              rw [eX] at hp9
              have c6 : Chg L w3 w6 := cc2.then_below b56
              have c7 : Chg L w3 (w7.setCell ⟨B, 6, none⟩ (.slice ad7 (nF + 1) cp7)) := (c6.grown gw7 (fun x hx => .inl (h6.LN x (by rw [hvN.out]; exact hx)))).setCell (.inl h6.LB.1) _
              go_wp2
              go_ret
              exact ⟨by rw [← hoz.out, le]; rfl, ⟨_, by rw [← hoz.out, le]; exact hp9⟩, (Chg.of_below (seq_below bel b3)).trans (c7.widen (seq_below bel b3))⟩
end Go.Proofs.Ytecppcakgfohbab
