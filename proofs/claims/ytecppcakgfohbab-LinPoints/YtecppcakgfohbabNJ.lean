/- Load. -/
import Derived.Test.YtecppcakgfohbabNI
namespace Go.Proofs.Ytecppcakgfohbab
open Go.RowKit
set_option linter.unusedSimpArgs false
set_option linter.unusedVariables false

theorem tkO_F (X : Sx) (k : Nat) (nd aE : Int) (aH : Nat) (aY : Bool) : ((tkO X k nd aE aH aY).getD X).F = X.F := by
  unfold tkO
  split <;> rfl
set_option maxRecDepth 100000 in
set_option maxHeartbeats 8000000 in
theorem loads_any {w : World} {B : Nat} {L : Nat → Prop} {C : Cg} {n : Nat} {X : Sx} {m : Md} (h : MdOk w B L C n X m) (hL : ∀ i, L i → i < w.heap.size) {N : Nat} (iv : X.Inv N) (hN : N < 1000000) (hn : n < 1000000) {k : Nat} (hk : k < C.c) (kd cN : Int) {cH cX cY : Nat} (hcH : cH < 18446744073709551616) (hcX : cX < 18446744073709551616) (hcY : cY < 18446744073709551616) (aE : Int) {aH : Nat} (hH : aH < 18446744073709551616) (aY : Bool) :
    Calls Try.prog 53 #[.pointer (some ⟨B, 0, none⟩), .pointer (some ⟨m.Bc, 3 * k, none⟩), .agg #[.int .i64 kd, .int .i64 cN, .int .u64 (cH : Nat), .int .u64 (cX : Nat), .int .u64 (cY : Nat)], .agg #[.int .i64 aE, .int .u64 (aH : Nat), .bool aY]] w fun r w' => r = .returned (.bool (ldO C X k cN cH aE aH aY).isSome) ∧ (∃ m', MdOk w' B (Lup L w w') C (n + 2) ((ldO C X k cN cH aE aH aY).getD X) m') ∧ Chg L w w' := by
  obtain ⟨oz, hoz⟩ : ∃ oz, ldO C X k cN cH aE aH aY = oz := ⟨_, rfl⟩
  rw [hoz]
  replace hoz := hid1 hoz
  have hq := new_obj w (.cells #[.int .i64 kd, .int .i64 cN, .int .u64 (cH : Nat), .int .u64 (cX : Nat), .int .u64 (cY : Nat)] 41)
  have b1 := alloc_below w (.cells #[.int .i64 kd, .int .i64 cN, .int .u64 (cH : Nat), .int .u64 (cX : Nat), .int .u64 (cY : Nat)] 41)
  have e1 : (w.alloc (.cells #[.int .i64 kd, .int .i64 cN, .int .u64 (cH : Nat), .int .u64 (cX : Nat), .int .u64 (cY : Nat)] 41)).heap.size = w.heap.size + 1 := by simp
  generalize hw1 : w.alloc (.cells #[.int .i64 kd, .int .i64 cN, .int .u64 (cH : Nat), .int .u64 (cX : Nat), .int .u64 (cY : Nat)] 41) = w0 at hq b1 e1
  have ha := new_obj w0 (.cells #[.int .i64 aE, .int .u64 (aH : Nat), .bool aY] 39)
  have b2 := alloc_below w0 (.cells #[.int .i64 aE, .int .u64 (aH : Nat), .bool aY] 39)
  replace hq := (b2.block _ (lt_of_block hq)).trans hq
  rw [e1] at ha
  have bel := seq_below b1 b2
  replace hw1 := hid1 hw1
  clear b1 b2 e1
  replace h := h.below bel
  have HM := hid1 (fun (w' : World) (b : Below (w0.alloc (.cells #[.int .i64 aE, .int .u64 (aH : Nat), .bool aY] 39)).heap.size (w0.alloc (.cells #[.int .i64 aE, .int .u64 (aH : Nat), .bool aY] 39)) w') => h.below b)
  have HK := hid1 (fun (w' : World) (b : Below (w0.alloc (.cells #[.int .i64 aE, .int .u64 (aH : Nat), .bool aY] 39)).heap.size (w0.alloc (.cells #[.int .i64 aE, .int .u64 (aH : Nat), .bool aY] 39)) w') => (h.below b).cq hk)
  have hp := hid1 (nodeF_lt iv.ok (k : Int))
  obtain ⟨o, ho⟩ : ∃ o, 3 * k = o := ⟨_, rfl⟩
  rw [ho] at HK ⊢
  replace ho := hid1 ho
  replace hk := hid1 hk
  replace hL := hid1 hL
  replace iv := hid1 iv
  clear h
  go_enter Try.func53, Try.ntmps53
  go_upto_region 1 with fail
  rw [hw1.out]
  clear hw1
  generalize World.alloc _ _ = w1 at *
  generalize hbc : w.heap.size = bq at hq ha ⊢
  replace hbc := hid1 hbc
  obtain ⟨ba, hba⟩ : ∃ ba, bq + 1 = ba := ⟨_, rfl⟩
  rw [hba] at ha ⊢
  replace hba := hid1 hba
  have HQ := hid1 (fun (w' : World) (b : Below w1.heap.size w1 w') => (b.block _ (lt_of_block hq)).trans hq)
  have HA := hid1 (fun (w' : World) (b : Below w1.heap.size w1 w') => (b.block _ (lt_of_block ha)).trans ha)
  have bi := Below.refl w1.heap.size w1
  obtain ⟨p1, hp1⟩ : ∃ p, nodeF (k : Int) cH X.H = p := ⟨_, rfl⟩
  have lk1 := hid1 (fun (w' : World) (b : Below w1.heap.size w1 w') => ((HK.out w' b).hd.look hcH))
  rw [hp1] at lk1
  by_cases g1 : 0 ≤ p1
  · rw [if_pos g1, decide_eq_true g1] at lk1
    refine region_below (by kernel_rfl) (by kernel_rfl) ?_
    repeat (first | go_big_quiet_skip | (go_big_quiet_want; go_big_quiet_op; first | go_big_quiet_on | (refine ⟨_, fun _ _ => rfl, ?_⟩; go_big_quiet_on) | (refine ⟨.map (some (m.bk k)), ?_, ?_⟩; (focus (intro w' hw'; have ck := HK.out w' (seq_below bi hw'); have y0 := ck.y0; have y1 := ck.y1; have y2 := ck.y2; simp [y0, Result.andThen]; done)); go_big_quiet_on) | (refine ⟨.int .u64 (cH : Nat), ?_, ?_⟩; (focus (intro w' hw'; obtain ⟨q0, q1, q2, q3, q4⟩ := call_cells (HQ.out w' (seq_below bi hw')); simp [q2, Result.andThen]; done)); go_big_quiet_on) | (refine ⟨.tuple #[.int .i64 p1, .bool true], ?_, ?_⟩; (focus (intro w' hw'; have lk := lk1.out w' (seq_below bi hw'); first | (simp [lk, Result.andThen]; done) | exact lk; done)); go_big_quiet_on)))
    refine wpQuiet_nil ?_
    intro w8 hb8
    replace bi := seq_below bi hb8
    clear hb8
    go_upto_region 4 with fail
    obtain ⟨rF, gF⟩ : ∃ rF, isField X p1 cN = rF := ⟨_, rfl⟩
    have cF : Calls Try.prog 70 #[.pointer (some ⟨B, 0, none⟩), .int .i64 p1, .int .i64 cN] _ fun r w' => r = .returned (.bool (isField X p1 cN)) ∧ _ = w' := hasField_any (HM.out _ bi) p1 cN
    rw [gF] at cF
    replace cF := hid1 cF
    obtain ⟨q0, q1, q2, q3, q4⟩ := call_cells (HQ.out _ bi)
    cases rF with
    | false =>
      go_upto_region 5 with (go_at_call 70; with_reducible refine cF.out.mono ?_; rintro r w2 ⟨rfl, rfl⟩)
      clear cF
      clear q0 q1 q2 q3 q4
      have le : ldO C X k cN cH aE aH aY = refO X (sameA aE aH aY 3 0 false) := by unfold ldO; rw [hp1, if_neg (by omega), gF, if_pos rfl]
      refine region_below (by kernel_rfl) (by kernel_rfl) ?_
      repeat (first | go_big_quiet_skip | (go_big_quiet_want; go_big_quiet_op; first | go_big_quiet_on | (refine ⟨_, fun _ _ => rfl, ?_⟩; go_big_quiet_on) | (refine ⟨.agg #[.int .i64 aE, .int .u64 (aH : Nat), .bool aY], ?_, ?_⟩; (focus (intro w' hw'; obtain ⟨a0, a1, a2⟩ := ans_cells (HA.out w' (seq_below bi hw')); simp [a0, a1, a2, Result.andThen]; done)); go_big_quiet_on) | (with_reducible refine ⟨_, (fun w' hw' => (refusal_any 3 w').mono fun _ _ ⟨he, hb⟩ => ⟨he, seq_below hw' hb⟩), ?_⟩; go_big_quiet_on) | (refine ⟨.bool (sameA aE aH aY 3 0 false), ?_, ?_⟩; (focus (intro w' hw'; unfold sameA; by_cases g1 : aE = 3 <;> by_cases g2 : aH = 0 <;> cases aY <;> simp [g1, g2, Result.andThen]; done)); go_big_quiet_on)))
      refine wpQuiet_nil ?_
      intro w8 hb8
      replace bi := seq_below bi hb8
      clear hb8
      go_wp2
      go_ret
      exact ⟨by rw [← hoz.out, le, refO_some]; rfl, ⟨m, by rw [← hoz.out, le, refO_get]; exact ((HM.out _ bi).up (fun i q => .inl q)).more (by omega)⟩, Chg.of_below (seq_below bel bi)⟩
    | true =>
      go_upto_region 6 with (go_at_call 70; with_reducible refine cF.out.mono ?_; rintro r w2 ⟨rfl, rfl⟩)
      clear cF
      clear q0 q1 q2 q3 q4
      have iF := hid1 gF
      have gF1 : (0 ≤ p1 ∧ p1 < X.F.length) ∧ 0 ≤ cN ∧ cN < ((rowF X p1).length : Int) := by
        have z := gF
        unfold isField at z
        rw [Bool.and_eq_true, decide_eq_true_eq, decide_eq_true_eq] at z
        exact z
      obtain ⟨K, hK⟩ : ∃ K, X.F[p1.toNat]? = some K := ⟨_, List.getElem?_eq_getElem (by omega)⟩
      have hrow : rowF X p1 = K := by unfold rowF; rw [List.getD_eq_getElem?_getD, hK]; rfl
      obtain ⟨lk, hlk⟩ : ∃ lk, K.length = lk := ⟨_, rfl⟩
      obtain ⟨nF, hnF⟩ : ∃ nF, X.F.length = nF := ⟨_, rfl⟩
      rw [hrow, hlk, hnF] at gF1
      obtain ⟨fv, hfv⟩ : ∃ y, K[cN.toNat]? = some y := ⟨_, List.getElem?_eq_getElem (by omega)⟩
      have hfl : fldF X p1 cN = fv := by unfold fldF; rw [hrow, List.getD_eq_getElem?_getD, hfv]; rfl
      obtain ⟨adN, cpN, hvN⟩ := (HM.out _ bi).vN
      obtain ⟨gN, ar, cr, hadN, z0, hrw, hzz⟩ := (HM.out _ bi).node hvN hK
      obtain ⟨gr, or, har, z1⟩ := hzz _ _ hfv
      subst hadN har
      rw [hlk] at hrw
      rw [hnF] at hvN
      clear z0 z1 hzz
      have HR := hid1 (fun (wr : World) (n' : Nat) (X' : Sx) (hm : MdOk wr B L C n' X' m) (hF : X'.F = X.F) => hm.rd hvN hrw (by rw [hF]; exact hK) hfv)
      have hfb := hid1 (iv.out.ok.field K (List.mem_of_getElem? hK) fv (List.mem_of_getElem? hfv))
      have gN0 := gF1.1.1
      have gN1 := gF1.1.2
      have gN2 := gF1.2.1
      have gN3 := gF1.2.2
      replace hvN := hid1 hvN
      replace hrw := hid1 hrw
      replace hK := hid1 hK
      replace hfv := hid1 hfv
      replace hlk := hid1 hlk
      replace hnF := hid1 hnF
      replace hrow := hid1 hrow
      clear gF1 gF
      replace hfl := hid1 hfl
      by_cases gv : fv = -1
      · refine region_below (by kernel_rfl) (by kernel_rfl) ?_
        repeat (first | go_big_quiet_skip | (go_big_quiet_want; go_big_quiet_op; first | go_big_quiet_on | (refine ⟨_, fun _ _ => rfl, ?_⟩; go_big_quiet_on) | (refine ⟨.slice (some ⟨gN, 0, none⟩) nF cpN, ?_, ?_⟩; (focus (intro w' hw'; obtain ⟨x0, x1, x2, x3, x4, x5, x6, x7, x8⟩ := (HM.out w' (seq_below bi hw')).cells; rw [hvN.out] at x6; simp [x6, Result.andThen]; done)); go_big_quiet_on) | (refine ⟨.slice (some ⟨gr, or, none⟩) lk cr, ?_, ?_⟩; (focus (intro w' hw'; have rd := HR.out w' n X (HM.out w' (seq_below bi hw')) rfl; have r0 := rd.1; have r1 := rd.2; simp [r0, Result.andThen]; done)); go_big_quiet_on) | (refine ⟨.int .i64 cN, ?_, ?_⟩; (focus (intro w' hw'; obtain ⟨q0, q1, q2, q3, q4⟩ := call_cells (HQ.out w' (seq_below bi hw')); simp [q1, Result.andThen]; done)); go_big_quiet_on) | (refine ⟨.int .i64 fv, ?_, ?_⟩; (focus (intro w' hw'; have rd := HR.out w' n X (HM.out w' (seq_below bi hw')) rfl; have r0 := rd.1; have r1 := rd.2; simp [r1, Result.andThen]; done)); go_big_quiet_on) | (refine ⟨.bool true, ?_, ?_⟩; (focus (intro w' hw'; simp [go_sem, Result.andThen, gv]; done)); go_big_quiet_on)))
        refine wpQuiet_nil ?_
        intro w8 hb8
        replace bi := seq_below bi hb8
        clear hb8
        replace gv := hid1 gv
        obtain ⟨a0, a1, a2⟩ := ans_cells (HA.out _ bi)
        by_cases gE : aE = 0
        · have f1 : (aE == 0) = true := by simp [gE]
          by_cases gH : aH = 0
          · have f2 : ((aH : Int) == 0) = true := by simp [gH]
            cases aY with
            | true =>
              have sA : sameA aE aH true 0 0 false = false := by unfold sameA; simp
              replace gE := hid1 gE
              replace gH := hid1 gH
              have le : ldO C X k cN cH aE aH true = none := by unfold ldO; rw [hp1, if_neg (by omega), iF.out, if_neg (by decide), hfl.out, if_pos gv.out, sA]; rfl
              go_wp2
              go_ret
              exact ⟨by rw [← hoz.out, le]; rfl, ⟨m, by rw [← hoz.out, le]; exact ((HM.out _ bi).up (fun i q => .inl q)).more (by omega)⟩, Chg.of_below (seq_below bel bi)⟩
            | false =>
              have sA : sameA aE aH false 0 0 false = true := by unfold sameA; simp [gE, gH]
              replace gE := hid1 gE
              replace gH := hid1 gH
              have le : ldO C X k cN cH aE aH false = some X := by unfold ldO; rw [hp1, if_neg (by omega), iF.out, if_neg (by decide), hfl.out, if_pos gv.out, sA]; rfl
              go_wp2
              go_ret
              exact ⟨by rw [← hoz.out, le]; rfl, ⟨m, by rw [← hoz.out, le]; exact ((HM.out _ bi).up (fun i q => .inl q)).more (by omega)⟩, Chg.of_below (seq_below bel bi)⟩
          · have f2 : ((aH : Int) == 0) = false := by simp; omega
            have sA : sameA aE aH aY 0 0 false = false := by unfold sameA; simp [gH]
            replace gE := hid1 gE
            replace gH := hid1 gH
            have le : ldO C X k cN cH aE aH aY = none := by unfold ldO; rw [hp1, if_neg (by omega), iF.out, if_neg (by decide), hfl.out, if_pos gv.out, sA]; rfl
            go_wp2
            go_ret
            exact ⟨by rw [← hoz.out, le]; rfl, ⟨m, by rw [← hoz.out, le]; exact ((HM.out _ bi).up (fun i q => .inl q)).more (by omega)⟩, Chg.of_below (seq_below bel bi)⟩
        · have f1 : (aE == 0) = false := by simp [gE]
          have sA : sameA aE aH aY 0 0 false = false := by unfold sameA; simp [gE]
          replace gE := hid1 gE
          have le : ldO C X k cN cH aE aH aY = none := by unfold ldO; rw [hp1, if_neg (by omega), iF.out, if_neg (by decide), hfl.out, if_pos gv.out, sA]; rfl
          go_wp2
          go_ret
          exact ⟨by rw [← hoz.out, le]; rfl, ⟨m, by rw [← hoz.out, le]; exact ((HM.out _ bi).up (fun i q => .inl q)).more (by omega)⟩, Chg.of_below (seq_below bel bi)⟩
      · refine region_below (by kernel_rfl) (by kernel_rfl) ?_
        repeat (first | go_big_quiet_skip | (go_big_quiet_want; go_big_quiet_op; first | go_big_quiet_on | (refine ⟨_, fun _ _ => rfl, ?_⟩; go_big_quiet_on) | (refine ⟨.slice (some ⟨gN, 0, none⟩) nF cpN, ?_, ?_⟩; (focus (intro w' hw'; obtain ⟨x0, x1, x2, x3, x4, x5, x6, x7, x8⟩ := (HM.out w' (seq_below bi hw')).cells; rw [hvN.out] at x6; simp [x6, Result.andThen]; done)); go_big_quiet_on) | (refine ⟨.slice (some ⟨gr, or, none⟩) lk cr, ?_, ?_⟩; (focus (intro w' hw'; have rd := HR.out w' n X (HM.out w' (seq_below bi hw')) rfl; have r0 := rd.1; have r1 := rd.2; simp [r0, Result.andThen]; done)); go_big_quiet_on) | (refine ⟨.int .i64 cN, ?_, ?_⟩; (focus (intro w' hw'; obtain ⟨q0, q1, q2, q3, q4⟩ := call_cells (HQ.out w' (seq_below bi hw')); simp [q1, Result.andThen]; done)); go_big_quiet_on) | (refine ⟨.int .i64 fv, ?_, ?_⟩; (focus (intro w' hw'; have rd := HR.out w' n X (HM.out w' (seq_below bi hw')) rfl; have r0 := rd.1; have r1 := rd.2; simp [r1, Result.andThen]; done)); go_big_quiet_on) | (refine ⟨.bool false, ?_, ?_⟩; (focus (intro w' hw'; simp [go_sem, Result.andThen, gv]; done)); go_big_quiet_on)))
        refine wpQuiet_nil ?_
        intro w8 hb8
        replace bi := seq_below bi hb8
        clear hb8
        obtain ⟨rU, hful⟩ : ∃ rU, fullF C X k = rU := ⟨_, rfl⟩
        have cU : Calls Try.prog 67 #[.pointer (some ⟨B, 0, none⟩), .pointer (some ⟨m.Bc, o, none⟩)] w8 fun r w' => r = .returned (.bool (fullF C X k)) ∧ Below w8.heap.size w8 w' := full_any (HM.out _ bi) (HK.out _ bi)
        rw [hful] at cU
        replace cU := hid1 cU
        replace hful := hid1 hful
        cases rU with
        | true =>
          go_upto_region 9 with (go_at_call 67; with_reducible refine cU.out.mono ?_; rintro r w8 ⟨rfl, b⟩; replace bi := seq_below bi b; clear b)
          clear cU
          have le : ldO C X k cN cH aE aH aY = refO X (sameA aE aH aY 5 0 false) := by unfold ldO; rw [hp1, if_neg (by omega), iF.out, if_neg (by decide), hfl.out, if_neg gv, hful.out, if_pos rfl]
          refine region_below (by kernel_rfl) (by kernel_rfl) ?_
          repeat (first | go_big_quiet_skip | (go_big_quiet_want; go_big_quiet_op; first | go_big_quiet_on | (refine ⟨_, fun _ _ => rfl, ?_⟩; go_big_quiet_on) | (refine ⟨.agg #[.int .i64 aE, .int .u64 (aH : Nat), .bool aY], ?_, ?_⟩; (focus (intro w' hw'; obtain ⟨a0, a1, a2⟩ := ans_cells (HA.out w' (seq_below bi hw')); simp [a0, a1, a2, Result.andThen]; done)); go_big_quiet_on) | (with_reducible refine ⟨_, (fun w' hw' => (refusal_any 5 w').mono fun _ _ ⟨he, hb⟩ => ⟨he, seq_below hw' hb⟩), ?_⟩; go_big_quiet_on) | (refine ⟨.bool (sameA aE aH aY 5 0 false), ?_, ?_⟩; (focus (intro w' hw'; unfold sameA; by_cases g1 : aE = 5 <;> by_cases g2 : aH = 0 <;> cases aY <;> simp [g1, g2, Result.andThen]; done)); go_big_quiet_on)))
          refine wpQuiet_nil ?_
          intro w8 hb8
          replace bi := seq_below bi hb8
          clear hb8
          go_wp2
          go_ret
          exact ⟨by rw [← hoz.out, le, refO_some]; rfl, ⟨m, by rw [← hoz.out, le, refO_get]; exact ((HM.out _ bi).up (fun i q => .inl q)).more (by omega)⟩, Chg.of_below (seq_below bel bi)⟩
        | false =>
          go_upto_region 10 with (go_at_call 67; with_reducible refine cU.out.mono ?_; rintro r w8 ⟨rfl, b⟩; replace bi := seq_below bi b; clear b)
          clear cU
          obtain ⟨w3, hw3⟩ : ∃ w3, World.drew w8 = w3 := ⟨_, rfl⟩
          have b3 : Below w1.heap.size w1 w3 := by rw [← hw3]; exact bi.drew
          have hL3 : ∀ i, L i → i < w3.heap.size := fun i q => Nat.lt_of_lt_of_le (hL.out i q) (Nat.le_trans bel.size b3.size)
          have cT := takes_any (HM.out _ b3) hL3 iv.out (by omega) hk.out (nd := fv) (by have := hfb.out; omega) (by have := hfb.out; have := iv.out.nF; omega) aE hH aY
          rw [ho.out] at cT
          obtain ⟨oT, hoT⟩ : ∃ oT, tkO X k fv aE aH aY = oT := ⟨_, rfl⟩
          have hTF := tkO_F X k fv aE aH aY
          rw [hoT] at cT hTF
          have le : ldO C X k cN cH aE aH aY = oT := by unfold ldO; rw [hp1, if_neg (by omega), iF.out, if_neg (by decide), hfl.out, if_neg gv, hful.out, if_neg (by decide), hoT]
          have HS := hid1 (fun (wr : World) (n' : Nat) (X' : Sx) (hm : MdOk wr B L C n' X' m) (hF : X'.F = X.F) (qq : wr.heap[bq]? = some (.cells #[.int .i64 kd, .int .i64 cN, .int .u64 (cH : Nat), .int .u64 (cX : Nat), .int .u64 (cY : Nat)] 41 (0, 0))) (qa : wr.heap[ba]? = some (.cells #[.int .i64 aE, .int .u64 (aH : Nat), .bool aY] 39 (0, 0))) => (⟨by have := hm.cells.2.2.2.2.2.2.1; rw [hvN.out] at this; exact this, (HR.out wr n' X' hm hF).1, (call_cells qq).2.1, (HR.out wr n' X' hm hF).2, (ans_cells qa).1, (ans_cells qa).2.1, (ans_cells qa).2.2⟩ : wr.cell? ⟨B, 6, none⟩ = some (.slice (some ⟨gN, 0, none⟩) nF cpN) ∧ wr.cell? ⟨gN, p1.toNat, none⟩ = some (.slice (some ⟨gr, or, none⟩) lk cr) ∧ wr.cell? ⟨bq, 1, none⟩ = some (.int .i64 cN) ∧ wr.cell? ⟨gr, or + cN.toNat, none⟩ = some (.int .i64 fv) ∧ wr.cell? ⟨ba, 0, none⟩ = some (.int .i64 aE) ∧ wr.cell? ⟨ba, 1, none⟩ = some (.int .u64 (aH : Nat)) ∧ wr.cell? ⟨ba, 2, none⟩ = some (.bool aY)))
          have s3 := HS.out _ _ _ (HM.out _ b3) rfl (HQ.out _ b3) (HA.out _ b3)
          have nbq : ¬ L bq := fun q => by have := hL.out _ q; have := hbc.out; omega
          have nba : ¬ L ba := fun q => by have := hL.out _ q; have := hbc.out; have := hba.out; omega
          have sT := fun (w2 : World) (h2 : MdOk w2 B L C (n + 2) (oT.getD X) m) (c2 : Chg L w3 w2) => HS.out w2 _ _ h2 hTF ((c2.block _ (lt_of_block (HQ.out _ b3)) nbq).trans (HQ.out _ b3)) ((c2.block _ (lt_of_block (HA.out _ b3)) nba).trans (HA.out _ b3))
          replace sT := hid1 sT
          replace cT := hid1 cT
          replace hoT := hid1 hoT
          replace hTF := hid1 hTF
          replace hp1 := hid1 hp1
          replace le := hid1 le
          replace nbq := hid1 nbq
          replace nba := hid1 nba
          refine wp_region_held_drew (S := fun wr => wr.cell? ⟨B, 6, none⟩ = some (.slice (some ⟨gN, 0, none⟩) nF cpN) ∧ wr.cell? ⟨gN, p1.toNat, none⟩ = some (.slice (some ⟨gr, or, none⟩) lk cr) ∧ wr.cell? ⟨bq, 1, none⟩ = some (.int .i64 cN) ∧ wr.cell? ⟨gr, or + cN.toNat, none⟩ = some (.int .i64 fv) ∧ wr.cell? ⟨ba, 0, none⟩ = some (.int .i64 aE) ∧ wr.cell? ⟨ba, 1, none⟩ = some (.int .u64 (aH : Nat)) ∧ wr.cell? ⟨ba, 2, none⟩ = some (.bool aY)) (by kernel_rfl) (by rw [hw3]; exact s3) (fun hS1 => ?_)
          clear s3
          rw [hw3] at hS1 ⊢
          refine wpAnyH_take (i := 0) (oi := { dst := some 60, op := Go.Op.move (Go.Operand.tmp 0), type := 60, pos := "does.go:100", after := #[], guard := none }) (v := .pointer (some ⟨B, 0, none⟩)) rfl (by kernel_rfl) (by kernel_rfl) (by kernel_rfl) (fun _ _ _ h => h) (Or.inl ⟨by rfl, fun w hSw => by (try dsimp only at hSw); go_simp⟩) hS1 ?_
          simp only [Act.put, List.setIfInBounds_toArray, List.set_cons_zero, List.set_cons_succ]
          refine wpAnyH_take (i := 1) (oi := { dst := some 61, op := Go.Op.move (Go.Operand.tmp 1), type := 98, pos := "does.go:100", after := #[], guard := none }) (v := .pointer (some ⟨m.Bc, o, none⟩)) rfl (by kernel_rfl) (by kernel_rfl) (by kernel_rfl) (fun _ _ _ h => h) (Or.inl ⟨by rfl, fun w hSw => by (try dsimp only at hSw); go_simp⟩) hS1 ?_
          simp only [Act.put, List.setIfInBounds_toArray, List.set_cons_zero, List.set_cons_succ]
          refine wpAnyH_take (i := 2) (oi := { dst := some 62, op := Go.Op.move (Go.Operand.tmp 0), type := 60, pos := "does.go:100", after := #[], guard := none }) (v := .pointer (some ⟨B, 0, none⟩)) rfl (by kernel_rfl) (by kernel_rfl) (by kernel_rfl) (fun _ _ _ h => h) (Or.inl ⟨by rfl, fun w hSw => by (try dsimp only at hSw); go_simp⟩) hS1 ?_
          simp only [Act.put, List.setIfInBounds_toArray, List.set_cons_zero, List.set_cons_succ]
          refine wpAnyH_take (i := 3) (oi := { dst := some 63, op := Go.Op.nilCheck (Go.Operand.tmp 62), type := 0, pos := "does.go:100", after := #[{ on := 2, ground := Go.Ground.data }], guard := none }) (v := .pointer (some ⟨B, 0, none⟩)) rfl (by kernel_rfl) (by kernel_rfl) (by kernel_rfl) (fun _ _ _ h => h) (Or.inl ⟨by rfl, fun w hSw => by (try dsimp only at hSw); go_simp⟩) hS1 ?_
          simp only [Act.put, List.setIfInBounds_toArray, List.set_cons_zero, List.set_cons_succ]
          refine wpAnyH_take (i := 4) (oi := { dst := some 64, op := Go.Op.fieldAddr 80 (Go.Operand.tmp 63) 1, type := 0, pos := "does.go:100", after := #[{ on := 3, ground := Go.Ground.data }], guard := none }) (v := .pointer (some ⟨B, 6, none⟩)) rfl (by kernel_rfl) (by kernel_rfl) (by kernel_rfl) (fun _ _ _ h => h) (Or.inl ⟨by rfl, fun w hSw => by (try dsimp only at hSw); go_simp⟩) hS1 ?_
          simp only [Act.put, List.setIfInBounds_toArray, List.set_cons_zero, List.set_cons_succ]
          refine wpAnyH_take (i := 5) (oi := { dst := some 65, op := Go.Op.load 50 (Go.Operand.tmp 64), type := 50, pos := "does.go:100", after := #[{ on := 4, ground := Go.Ground.data }], guard := none }) (v := .slice (some ⟨gN, 0, none⟩) nF cpN) rfl (by kernel_rfl) (by kernel_rfl) (by kernel_rfl) (fun _ _ _ h => h) (Or.inl ⟨by rfl, fun w hSw => by (try dsimp only at hSw); go_simp⟩) hS1 ?_
          simp only [Act.put, List.setIfInBounds_toArray, List.set_cons_zero, List.set_cons_succ]
          refine wpAnyH_take (i := 6) (oi := { dst := some 66, op := Go.Op.move (Go.Operand.tmp 9), type := 3, pos := "does.go:100", after := #[], guard := none }) (v := .int .i64 p1) rfl (by kernel_rfl) (by kernel_rfl) (by kernel_rfl) (fun _ _ _ h => h) (Or.inl ⟨by rfl, fun w hSw => by (try dsimp only at hSw); go_simp⟩) hS1 ?_
          simp only [Act.put, List.setIfInBounds_toArray, List.set_cons_zero, List.set_cons_succ]
          refine wpAnyH_take (i := 7) (oi := { dst := some 67, op := Go.Op.indexAddr 50 (Go.Operand.tmp 65) (Go.Operand.tmp 66), type := 0, pos := "does.go:100", after := #[{ on := 5, ground := Go.Ground.data }, { on := 6, ground := Go.Ground.data }], guard := none }) (v := .pointer (some ⟨gN, p1.toNat, none⟩)) rfl (by kernel_rfl) (by kernel_rfl) (by kernel_rfl) (fun _ _ _ h => h) (Or.inl ⟨by rfl, fun w hSw => by (try dsimp only at hSw); go_simp⟩) hS1 ?_
          simp only [Act.put, List.setIfInBounds_toArray, List.set_cons_zero, List.set_cons_succ]
          refine wpAnyH_take (i := 8) (oi := { dst := some 68, op := Go.Op.load 25 (Go.Operand.tmp 67), type := 25, pos := "does.go:100", after := #[{ on := 7, ground := Go.Ground.data }], guard := none }) (v := .slice (some ⟨gr, or, none⟩) lk cr) rfl (by kernel_rfl) (by kernel_rfl) (by kernel_rfl) (fun _ _ _ h => h) (Or.inl ⟨by rfl, fun w hSw => by (try dsimp only at hSw); go_simp⟩) hS1 ?_
          simp only [Act.put, List.setIfInBounds_toArray, List.set_cons_zero, List.set_cons_succ]
          refine wpAnyH_take (i := 9) (oi := { dst := some 69, op := Go.Op.fieldAddr 41 (Go.Operand.tmp 6) 1, type := 0, pos := "does.go:100", after := #[], guard := none }) (v := .pointer (some ⟨bq, 1, none⟩)) rfl (by kernel_rfl) (by kernel_rfl) (by kernel_rfl) (fun _ _ _ h => h) (Or.inl ⟨by rfl, fun w hSw => by (try dsimp only at hSw); go_simp⟩) hS1 ?_
          simp only [Act.put, List.setIfInBounds_toArray, List.set_cons_zero, List.set_cons_succ]
          refine wpAnyH_take (i := 10) (oi := { dst := some 70, op := Go.Op.load 3 (Go.Operand.tmp 69), type := 3, pos := "does.go:100", after := #[{ on := 9, ground := Go.Ground.data }], guard := none }) (v := .int .i64 cN) rfl (by kernel_rfl) (by kernel_rfl) (by kernel_rfl) (fun _ _ _ h => h) (Or.inl ⟨by rfl, fun w hSw => by (try dsimp only at hSw); go_simp⟩) hS1 ?_
          simp only [Act.put, List.setIfInBounds_toArray, List.set_cons_zero, List.set_cons_succ]
          refine wpAnyH_take (i := 11) (oi := { dst := some 71, op := Go.Op.indexAddr 25 (Go.Operand.tmp 68) (Go.Operand.tmp 70), type := 0, pos := "does.go:100", after := #[{ on := 8, ground := Go.Ground.data }, { on := 10, ground := Go.Ground.data }], guard := none }) (v := .pointer (some ⟨gr, or + cN.toNat, none⟩)) rfl (by kernel_rfl) (by kernel_rfl) (by kernel_rfl) (fun _ _ _ h => h) (Or.inl ⟨by rfl, fun w hSw => by (try dsimp only at hSw); go_simp⟩) hS1 ?_
          simp only [Act.put, List.setIfInBounds_toArray, List.set_cons_zero, List.set_cons_succ]
          refine wpAnyH_take (i := 12) (oi := { dst := some 72, op := Go.Op.load 3 (Go.Operand.tmp 71), type := 3, pos := "does.go:100", after := #[{ on := 11, ground := Go.Ground.data }], guard := none }) (v := .int .i64 fv) rfl (by kernel_rfl) (by kernel_rfl) (by kernel_rfl) (fun _ _ _ h => h) (Or.inl ⟨by rfl, fun w hSw => by (try dsimp only at hSw); go_simp⟩) hS1 ?_
          simp only [Act.put, List.setIfInBounds_toArray, List.set_cons_zero, List.set_cons_succ]
          refine wpAnyH_take (i := 13) (oi := { dst := some 73, op := Go.Op.load 39 (Go.Operand.tmp 7), type := 39, pos := "does.go:100", after := #[], guard := none }) (v := .agg #[.int .i64 aE, .int .u64 (aH : Nat), .bool aY]) rfl (by kernel_rfl) (by kernel_rfl) (by kernel_rfl) (fun _ _ _ h => h) (Or.inl ⟨by rfl, fun w hSw => by (try dsimp only at hSw); go_simp⟩) hS1 ?_
          simp only [Act.put, List.setIfInBounds_toArray, List.set_cons_zero, List.set_cons_succ]
          refine wpAnyH_ready (rs := [14]) (by kernel_rfl) (by simp) (AllReadyH.cons (o := { dst := some 74, op := Go.Op.call { callee := Go.Callee.value (Go.Operand.func 68), args := #[Go.Operand.tmp 60, Go.Operand.tmp 61, Go.Operand.tmp 72, Go.Operand.tmp 73], argTypes := #[60, 98, 3, 39] }, type := 4, pos := "does.go:100", after := #[{ on := 0, ground := Go.Ground.data }, { on := 1, ground := Go.Ground.data }, { on := 12, ground := Go.Ground.data }, { on := 13, ground := Go.Ground.data }], guard := none }) rfl (fun K hK => ?_) AllReadyH.nil)
          go_simp
          go_at_call 68
          with_reducible refine cT.out.mono ?_
          rintro r w2 ⟨rfl, h2, c2⟩
          (try simp only [])
          have s4 := sT.out _ h2 c2
          refine hK.out _ _ s4 (fun hS1 => ?_)
          (try simp only [Act.put, List.setIfInBounds_toArray, List.set_cons_zero, List.set_cons_succ])
          clear hK K
          refine wpAnyH_take (i := 15) (oi := { dst := some 8, op := Go.Op.assign (Go.Operand.tmp 74), type := 4, pos := "does.go:100", after := #[{ on := 14, ground := Go.Ground.data }, { on := 14, ground := Go.Ground.chain }, { on := 0, ground := Go.Ground.phase }, { on := 1, ground := Go.Ground.phase }, { on := 2, ground := Go.Ground.phase }, { on := 3, ground := Go.Ground.phase }, { on := 4, ground := Go.Ground.phase }, { on := 5, ground := Go.Ground.phase }, { on := 6, ground := Go.Ground.phase }, { on := 7, ground := Go.Ground.phase }, { on := 8, ground := Go.Ground.phase }, { on := 9, ground := Go.Ground.phase }, { on := 10, ground := Go.Ground.phase }, { on := 11, ground := Go.Ground.phase }, { on := 12, ground := Go.Ground.phase }, { on := 13, ground := Go.Ground.phase }, { on := 14, ground := Go.Ground.phase }], guard := none }) (v := .bool oT.isSome) rfl (by kernel_rfl) (by kernel_rfl) (by kernel_rfl) (fun _ _ _ h => h) (Or.inl ⟨by rfl, fun w hSw => by (try dsimp only at hSw); go_simp⟩) hS1 ?_
          simp only [Act.put, List.setIfInBounds_toArray, List.set_cons_zero, List.set_cons_succ]
          refine wpAnyH_done (by kernel_rfl) ?_ _
          clear hS1 s4
          go_wp2
          go_ret
          exact ⟨by rw [← hoz.out, le.out]; rfl, ⟨m, by rw [← hoz.out, le.out]; exact h2.up (fun i q => .inl q)⟩, (Chg.of_below (seq_below bel b3)).trans (c2.widen (seq_below bel b3))⟩
  · rw [if_neg g1, decide_eq_false g1] at lk1
    refine region_below (by kernel_rfl) (by kernel_rfl) ?_
    repeat (first | go_big_quiet_skip | (go_big_quiet_want; go_big_quiet_op; first | go_big_quiet_on | (refine ⟨_, fun _ _ => rfl, ?_⟩; go_big_quiet_on) | (refine ⟨.map (some (m.bk k)), ?_, ?_⟩; (focus (intro w' hw'; have ck := HK.out w' (seq_below bi hw'); have y0 := ck.y0; have y1 := ck.y1; have y2 := ck.y2; simp [y0, Result.andThen]; done)); go_big_quiet_on) | (refine ⟨.int .u64 (cH : Nat), ?_, ?_⟩; (focus (intro w' hw'; obtain ⟨q0, q1, q2, q3, q4⟩ := call_cells (HQ.out w' (seq_below bi hw')); simp [q2, Result.andThen]; done)); go_big_quiet_on) | (refine ⟨.tuple #[.int .i64 0, .bool false], ?_, ?_⟩; (focus (intro w' hw'; have lk := lk1.out w' (seq_below bi hw'); first | (simp [lk, Result.andThen]; done) | exact lk; done)); go_big_quiet_on)))
    refine wpQuiet_nil ?_
    intro w8 hb8
    replace bi := seq_below bi hb8
    clear hb8
    have le : ldO C X k cN cH aE aH aY = refO X (sameA aE aH aY 2 0 false) := by unfold ldO; rw [hp1, if_pos (by omega)]
    go_upto_region 3 with fail
    refine region_below (by kernel_rfl) (by kernel_rfl) ?_
    repeat (first | go_big_quiet_skip | (go_big_quiet_want; go_big_quiet_op; first | go_big_quiet_on | (refine ⟨_, fun _ _ => rfl, ?_⟩; go_big_quiet_on) | (refine ⟨.agg #[.int .i64 aE, .int .u64 (aH : Nat), .bool aY], ?_, ?_⟩; (focus (intro w' hw'; obtain ⟨a0, a1, a2⟩ := ans_cells (HA.out w' (seq_below bi hw')); simp [a0, a1, a2, Result.andThen]; done)); go_big_quiet_on) | (with_reducible refine ⟨_, (fun w' hw' => (refusal_any 2 w').mono fun _ _ ⟨he, hb⟩ => ⟨he, seq_below hw' hb⟩), ?_⟩; go_big_quiet_on) | (refine ⟨.bool (sameA aE aH aY 2 0 false), ?_, ?_⟩; (focus (intro w' hw'; unfold sameA; by_cases g1 : aE = 2 <;> by_cases g2 : aH = 0 <;> cases aY <;> simp [g1, g2, Result.andThen]; done)); go_big_quiet_on)))
    refine wpQuiet_nil ?_
    intro w8 hb8
    replace bi := seq_below bi hb8
    clear hb8
    go_wp2
    go_ret
    exact ⟨by rw [← hoz.out, le, refO_some]; rfl, ⟨m, by rw [← hoz.out, le, refO_get]; exact ((HM.out _ bi).up (fun i q => .inl q)).more (by omega)⟩, Chg.of_below (seq_below bel bi)⟩
end Go.Proofs.Ytecppcakgfohbab
