/- Link, Unlink, Swap. -/
import Derived.Test.YtecppcakgfohbabNL
namespace Go.Proofs.Ytecppcakgfohbab
open Go.RowKit
set_option linter.unusedSimpArgs false
set_option linter.unusedVariables false

set_option maxRecDepth 100000 in
set_option maxHeartbeats 8000000 in
theorem writes_4 {w : World} {B : Nat} {L : Nat → Prop} {C : Cg} {n : Nat} {X : Sx} {m : Md} (h : MdOk w B L C n X m) (hL : ∀ i, L i → i < w.heap.size) {N : Nat} (iv : X.Inv N) (hN : N < 1000000) (hn : n < 1000000) {k : Nat} (hk : k < C.c) (cN : Int) {cH cX cY : Nat} (hcH : cH < 18446744073709551616) (hcX : cX < 18446744073709551616) (hcY : cY < 18446744073709551616) (aE : Int) {aH : Nat} (hH : aH < 18446744073709551616) (aY : Bool) :
    Calls Try.prog 55 #[.pointer (some ⟨B, 0, none⟩), .pointer (some ⟨m.Bc, 3 * k, none⟩), .agg #[.int .i64 4, .int .i64 cN, .int .u64 (cH : Nat), .int .u64 (cX : Nat), .int .u64 (cY : Nat)], .agg #[.int .i64 aE, .int .u64 (aH : Nat), .bool aY]] w fun r w' => r = .returned (.bool (wrO X k 4 cN cH cX cY aE aH aY).isSome) ∧ (∃ m', MdOk w' B (Lup L w w') C (n + 2) ((wrO X k 4 cN cH cX cY aE aH aY).getD X) m') ∧ Chg L w w' := by
  obtain ⟨oz, hoz⟩ : ∃ oz, wrO X k 4 cN cH cX cY aE aH aY = oz := ⟨_, rfl⟩
  rw [hoz]
  replace hoz := hid1 hoz
  have hq := new_obj w (.cells #[.int .i64 4, .int .i64 cN, .int .u64 (cH : Nat), .int .u64 (cX : Nat), .int .u64 (cY : Nat)] 41)
  have b1 := alloc_below w (.cells #[.int .i64 4, .int .i64 cN, .int .u64 (cH : Nat), .int .u64 (cX : Nat), .int .u64 (cY : Nat)] 41)
  have e1 : (w.alloc (.cells #[.int .i64 4, .int .i64 cN, .int .u64 (cH : Nat), .int .u64 (cX : Nat), .int .u64 (cY : Nat)] 41)).heap.size = w.heap.size + 1 := by simp
  generalize hw1 : w.alloc (.cells #[.int .i64 4, .int .i64 cN, .int .u64 (cH : Nat), .int .u64 (cX : Nat), .int .u64 (cY : Nat)] 41) = w0 at hq b1 e1
  have ha := new_obj w0 (.cells #[.int .i64 aE, .int .u64 (aH : Nat), .bool aY] 39)
  have b2 := alloc_below w0 (.cells #[.int .i64 aE, .int .u64 (aH : Nat), .bool aY] 39)
  replace hq := (b2.block _ (lt_of_block hq)).trans hq
  rw [e1] at ha
  have bel := seq_below b1 b2
  replace hw1 := hid1 hw1
  clear b1 b2 e1
  replace h := h.below bel
  have HM := hid1 (fun (w' : World) (b : Below (w0.alloc (.cells #[.int .i64 aE, .int .u64 (aH : Nat), .bool aY] 39)).heap.size (w0.alloc (.cells #[.int .i64 aE, .int .u64 (aH : Nat), .bool aY] 39)) w') => h.below b)
  have HK := hid1 (fun (w' : World) (b : Below (w0.alloc (.cells #[.int .i64 aE, .int .u64 (aH : Nat), .bool aY] 39)).heap.size (w0.alloc (.cells #[.int .i64 aE, .int .u64 (aH : Nat), .bool aY] 39)) w') => (h.below b).cq hk)
  have hp := hid1 (nodeF_lt iv.ok (k : Int))
  obtain ⟨o, ho⟩ : ∃ o, 3 * k = o := ⟨_, rfl⟩
  rw [ho] at HK ⊢
  replace ho := hid1 ho
  replace hk := hid1 hk
  replace hL := hid1 hL
  replace iv := hid1 iv
  clear h
  go_enter Try.func55, Try.ntmps55
  go_upto_region 1 with fail
  rw [hw1.out]
  clear hw1
  generalize World.alloc _ _ = w1 at *
  generalize hbc : w.heap.size = bq at hq ha ⊢
  replace hbc := hid1 hbc
  obtain ⟨ba, hba⟩ : ∃ ba, bq + 1 = ba := ⟨_, rfl⟩
  rw [hba] at ha ⊢
  replace hba := hid1 hba
  have HQ := hid1 (fun (w' : World) (b : Below w1.heap.size w1 w') => (b.block _ (lt_of_block hq)).trans hq)
  have HA := hid1 (fun (w' : World) (b : Below w1.heap.size w1 w') => (b.block _ (lt_of_block ha)).trans ha)
  have bi := Below.refl w1.heap.size w1
  obtain ⟨⟨tx, ty, kn⟩, htx⟩ : ∃ t, nmF X k 4 cX cY = t := ⟨_, rfl⟩
  replace htx := hid1 htx
  obtain ⟨q0, q1, q2, q3, q4⟩ := call_cells (HQ.out _ bi)
  go_upto_region 2 with fail
  clear q0 q1 q2 q3 q4
  obtain ⟨p1, hp1⟩ : ∃ p, nodeF (k : Int) cH X.H = p := ⟨_, rfl⟩
  have lk1 := hid1 (fun (w' : World) (b : Below w1.heap.size w1 w') => ((HK.out w' b).hd.look hcH))
  rw [hp1] at lk1
  by_cases g1 : 0 ≤ p1
  · rw [if_pos g1, decide_eq_true g1] at lk1
    refine region_below (by kernel_rfl) (by kernel_rfl) ?_
    repeat (first | go_big_quiet_skip | (go_big_quiet_want; go_big_quiet_op; first | go_big_quiet_on | (refine ⟨_, fun _ _ => rfl, ?_⟩; go_big_quiet_on) | (refine ⟨.map (some (m.bk k)), ?_, ?_⟩; (focus (intro w' hw'; have ck := HK.out w' (seq_below bi hw'); have y0 := ck.y0; have y1 := ck.y1; have y2 := ck.y2; simp [y0, Result.andThen]; done)); go_big_quiet_on) | (refine ⟨.int .u64 (cH : Nat), ?_, ?_⟩; (focus (intro w' hw'; obtain ⟨q0, q1, q2, q3, q4⟩ := call_cells (HQ.out w' (seq_below bi hw')); simp [q2, Result.andThen]; done)); go_big_quiet_on) | (refine ⟨.tuple #[.int .i64 p1, .bool true], ?_, ?_⟩; (focus (intro w' hw'; have lk := lk1.out w' (seq_below bi hw'); first | (simp [lk, Result.andThen]; done) | exact lk; done)); go_big_quiet_on)))
    refine wpQuiet_nil ?_
    intro w8 hb8
    replace bi := seq_below bi hb8
    clear hb8
    go_upto_region 3 with fail
    have cNm := hid1 (named_any (HK.out _ bi) iv.out 4 cN (cH := cH) hcX hcY (by decide))
    obtain ⟨q0, q1, q2, q3, q4⟩ := call_cells (HQ.out _ bi)
    go_upto_region 4 with (go_at_call 71; rw [htx.out] at cNm; with_reducible refine cNm.out.mono ?_; rintro r w8 ⟨x, y, rfl, hxy, b⟩; replace bi := seq_below bi b; clear b; replace hxy := hid1 hxy)
    clear cNm
    clear q0 q1 q2 q3 q4
    cases kn with
    | false =>
      go_upto_region 5 with fail
      have le : wrO X k 4 cN cH cX cY aE aH aY = refO X (sameA aE aH aY 2 0 false) := by unfold wrO; rw [hp1, htx.out, if_pos (.inr rfl)]
      refine region_below (by kernel_rfl) (by kernel_rfl) ?_
      repeat (first | go_big_quiet_skip | (go_big_quiet_want; go_big_quiet_op; first | go_big_quiet_on | (refine ⟨_, fun _ _ => rfl, ?_⟩; go_big_quiet_on) | (refine ⟨.agg #[.int .i64 aE, .int .u64 (aH : Nat), .bool aY], ?_, ?_⟩; (focus (intro w' hw'; obtain ⟨a0, a1, a2⟩ := ans_cells (HA.out w' (seq_below bi hw')); simp [a0, a1, a2, Result.andThen]; done)); go_big_quiet_on) | (with_reducible refine ⟨_, (fun w' hw' => (refusal_any 2 w').mono fun _ _ ⟨he, hb⟩ => ⟨he, seq_below hw' hb⟩), ?_⟩; go_big_quiet_on) | (refine ⟨.bool (sameA aE aH aY 2 0 false), ?_, ?_⟩; (focus (intro w' hw'; unfold sameA; by_cases g1 : aE = 2 <;> by_cases g2 : aH = 0 <;> cases aY <;> simp [g1, g2, Result.andThen]; done)); go_big_quiet_on)))
      refine wpQuiet_nil ?_
      intro w8 hb8
      replace bi := seq_below bi hb8
      clear hb8
      go_wp2
      go_ret
      exact ⟨by rw [← hoz.out, le, refO_some]; rfl, ⟨m, by rw [← hoz.out, le, refO_get]; exact ((HM.out _ bi).up (fun i q => .inl q)).more (by omega)⟩, Chg.of_below (seq_below bel bi)⟩
    | true =>
      obtain ⟨ex, ey⟩ := hxy.out rfl
      replace ex := ex.symm
      replace ey := ey.symm
      subst ex ey
      clear hxy
      go_upto_region 6 with fail
      obtain ⟨rF, gF⟩ : ∃ rF, isField X p1 cN = rF := ⟨_, rfl⟩
      have cF : Calls Try.prog 70 #[.pointer (some ⟨B, 0, none⟩), .int .i64 p1, .int .i64 cN] _ fun r w' => r = .returned (.bool (isField X p1 cN)) ∧ _ = w' := hasField_any (HM.out _ bi) p1 cN
      rw [gF] at cF
      replace cF := hid1 cF
      obtain ⟨q0, q1, q2, q3, q4⟩ := call_cells (HQ.out _ bi)
      cases rF with
      | false =>
        
        go_upto_region 7 with (go_at_call 70; with_reducible refine cF.out.mono ?_; rintro r w2 ⟨rfl, rfl⟩)
        clear cF
        clear q0 q1 q2 q3 q4
        have le : wrO X k 4 cN cH cX cY aE aH aY = refO X (sameA aE aH aY 3 0 false) := by unfold wrO; rw [hp1, htx.out, if_neg (by intro z; rcases z with z | z; omega; cases z), gF, if_pos rfl]
        refine region_below (by kernel_rfl) (by kernel_rfl) ?_
        repeat (first | go_big_quiet_skip | (go_big_quiet_want; go_big_quiet_op; first | go_big_quiet_on | (refine ⟨_, fun _ _ => rfl, ?_⟩; go_big_quiet_on) | (refine ⟨.agg #[.int .i64 aE, .int .u64 (aH : Nat), .bool aY], ?_, ?_⟩; (focus (intro w' hw'; obtain ⟨a0, a1, a2⟩ := ans_cells (HA.out w' (seq_below bi hw')); simp [a0, a1, a2, Result.andThen]; done)); go_big_quiet_on) | (with_reducible refine ⟨_, (fun w' hw' => (refusal_any 3 w').mono fun _ _ ⟨he, hb⟩ => ⟨he, seq_below hw' hb⟩), ?_⟩; go_big_quiet_on) | (refine ⟨.bool (sameA aE aH aY 3 0 false), ?_, ?_⟩; (focus (intro w' hw'; unfold sameA; by_cases g1 : aE = 3 <;> by_cases g2 : aH = 0 <;> cases aY <;> simp [g1, g2, Result.andThen]; done)); go_big_quiet_on)))
        refine wpQuiet_nil ?_
        intro w8 hb8
        replace bi := seq_below bi hb8
        clear hb8
        go_wp2
        go_ret
        exact ⟨by rw [← hoz.out, le, refO_some]; rfl, ⟨m, by rw [← hoz.out, le, refO_get]; exact ((HM.out _ bi).up (fun i q => .inl q)).more (by omega)⟩, Chg.of_below (seq_below bel bi)⟩
      | true =>
        go_upto_region 8 with (go_at_call 70; with_reducible refine cF.out.mono ?_; rintro r w2 ⟨rfl, rfl⟩)
        clear cF
        clear q0 q1 q2 q3 q4
        have iF := hid1 gF
        have gF1 : (0 ≤ p1 ∧ p1 < X.F.length) ∧ 0 ≤ cN ∧ cN < ((rowF X p1).length : Int) := by
          have z := gF
          unfold isField at z
          rw [Bool.and_eq_true, decide_eq_true_eq, decide_eq_true_eq] at z
          exact z
        obtain ⟨K, hK⟩ : ∃ K, X.F[p1.toNat]? = some K := ⟨_, List.getElem?_eq_getElem (by omega)⟩
        have hrow : rowF X p1 = K := by unfold rowF; rw [List.getD_eq_getElem?_getD, hK]; rfl
        obtain ⟨lk, hlk⟩ : ∃ lk, K.length = lk := ⟨_, rfl⟩
        obtain ⟨nF, hnF⟩ : ∃ nF, X.F.length = nF := ⟨_, rfl⟩
        rw [hrow, hlk, hnF] at gF1
        obtain ⟨fv, hfv⟩ : ∃ y, K[cN.toNat]? = some y := ⟨_, List.getElem?_eq_getElem (by omega)⟩
        have hfl : fldF X p1 cN = fv := by unfold fldF; rw [hrow, List.getD_eq_getElem?_getD, hfv]; rfl
        obtain ⟨adN, cpN, hvN⟩ := (HM.out _ bi).vN
        obtain ⟨gN, ar, cr, hadN, z0, hrw, hzz⟩ := (HM.out _ bi).node hvN hK
        obtain ⟨gr, or, har, z1⟩ := hzz _ _ hfv
        subst hadN har
        rw [hlk] at hrw
        rw [hnF] at hvN
        clear z0 z1 hzz
        have HR := hid1 (fun (wr : World) (n' : Nat) (X' : Sx) (hm : MdOk wr B L C n' X' m) (hF : X'.F = X.F) => hm.rd hvN hrw (by rw [hF]; exact hK) hfv)
        have hfb := hid1 (iv.out.ok.field K (List.mem_of_getElem? hK) fv (List.mem_of_getElem? hfv))
        have gN0 := gF1.1.1
        have gN1 := gF1.1.2
        have gN2 := gF1.2.1
        have gN3 := gF1.2.2
        replace hvN := hid1 hvN
        replace hrw := hid1 hrw
        replace hK := hid1 hK
        replace hfv := hid1 hfv
        replace hlk := hid1 hlk
        replace hnF := hid1 hnF
        replace hrow := hid1 hrow
        clear gF1 gF
        replace hfl := hid1 hfl
        refine region_below (by kernel_rfl) (by kernel_rfl) ?_
        repeat (first | go_big_quiet_skip | (go_big_quiet_want; go_big_quiet_op; first | go_big_quiet_on | (refine ⟨_, fun _ _ => rfl, ?_⟩; go_big_quiet_on) | (refine ⟨.agg #[.int .i64 aE, .int .u64 (aH : Nat), .bool aY], ?_, ?_⟩; (focus (intro w' hw'; obtain ⟨a0, a1, a2⟩ := ans_cells (HA.out w' (seq_below bi hw')); simp [a0, a1, a2, Result.andThen]; done)); go_big_quiet_on)))
        refine wpQuiet_nil ?_
        intro w8 hb8
        replace bi := seq_below bi hb8
        clear hb8
        obtain ⟨r4, h4⟩ : ∃ r, sameA aE aH aY 4 0 false = r := ⟨_, rfl⟩
        replace h4 := hid1 h4
        go_upto_region 10 with fail
        refine region_below (by kernel_rfl) (by kernel_rfl) ?_
        repeat (first | go_big_quiet_skip | (go_big_quiet_want; go_big_quiet_op; first | go_big_quiet_on | (refine ⟨_, fun _ _ => rfl, ?_⟩; go_big_quiet_on) | (refine ⟨.agg #[.int .i64 aE, .int .u64 (aH : Nat), .bool aY], ?_, ?_⟩; (focus (intro w' hw'; obtain ⟨a0, a1, a2⟩ := ans_cells (HA.out w' (seq_below bi hw')); simp [a0, a1, a2, Result.andThen]; done)); go_big_quiet_on) | (with_reducible refine ⟨_, (fun w' hw' => (refusal_any 4 w').mono fun _ _ ⟨he, hb⟩ => ⟨he, seq_below hw' hb⟩), ?_⟩; go_big_quiet_on) | (refine ⟨.bool r4, ?_, ?_⟩; (focus (intro w' hw'; rw [← h4.out]; unfold sameA; by_cases g1 : aE = 4 <;> by_cases g2 : aH = 0 <;> cases aY <;> simp [g1, g2, Result.andThen]; done)); go_big_quiet_on)))
        refine wpQuiet_nil ?_
        intro w8 hb8
        replace bi := seq_below bi hb8
        clear hb8
        cases r4 with
        | true =>
          have le : wrO X k 4 cN cH cX cY aE aH aY = some X := by unfold wrO; rw [hp1, htx.out, if_neg (by intro z; rcases z with z | z; omega; cases z), iF.out, if_neg (by decide), if_neg (by intro z; exact absurd z.1 (by decide)), h4.out]; rfl
          go_wp2
          go_ret
          exact ⟨by rw [← hoz.out, le]; rfl, ⟨m, by rw [← hoz.out, le]; exact ((HM.out _ bi).up (fun i q => .inl q)).more (by omega)⟩, Chg.of_below (seq_below bel bi)⟩
        | false =>
          obtain ⟨a0, a1, a2⟩ := ans_cells (HA.out _ bi)
          go_upto_region 12 with fail
          by_cases gE : aE = 0
          · have f1 : (aE == 0) = true := by simp [gE]
            by_cases gH : aH = 0
            · have f2 : ((aH : Int) == 0) = true := by simp [gH]
              cases aY with
              | true =>
                have sA : sameA aE aH true 0 0 false = false := by unfold sameA; simp
                replace gE := hid1 gE
                replace gH := hid1 gH
                have le : wrO X k 4 cN cH cX cY aE aH true = none := by unfold wrO; rw [hp1, htx.out, if_neg (by intro z; rcases z with z | z; omega; cases z), iF.out, if_neg (by decide), if_neg (by intro z; exact absurd z.1 (by decide)), h4.out, if_neg (by decide), show decide ((4 : Int) = 5) = false from rfl, sA]; rfl
                go_wp2
                go_ret
                exact ⟨by rw [← hoz.out, le]; rfl, ⟨m, by rw [← hoz.out, le]; exact ((HM.out _ bi).up (fun i q => .inl q)).more (by omega)⟩, Chg.of_below (seq_below bel bi)⟩
              | false =>
                have sA : sameA aE aH false 0 0 false = true := by unfold sameA; simp [gE, gH]
                replace gE := hid1 gE
                replace gH := hid1 gH
                have le : wrO X k 4 cN cH cX cY aE aH false = some (wrS X p1 cN tx) := by unfold wrO; rw [hp1, htx.out, if_neg (by intro z; rcases z with z | z; omega; cases z), iF.out, if_neg (by decide), if_neg (by intro z; exact absurd z.1 (by decide)), h4.out, if_neg (by decide), show decide ((4 : Int) = 5) = false from rfl, sA]; rfl
                go_upto_region 14 with fail
                clear a0 a1 a2
                have h3 := HM.out _ bi
                obtain ⟨h4', hLg⟩ := h3.put (i := cN.toNat) hrw.out hK.out (by have := hlk.out; omega) tx
                have z3 := (HR.out _ _ _ h3 rfl).2
                have hz3 := h3.row _ _ _ hK.out hrw.out
                have fz : World.frozen? (World.drew w8) ⟨gr, or + cN.toNat, none⟩ = false := by
                  obtain ⟨c, hc⟩ := hz3.cells (g := gr) rfl
                  exact cells_free hc _
                have c4 := ((Chg.of_below (L := L) (seq_below bel bi)).setCell (o := or + cN.toNat) (.inl hLg) (.int .i64 tx)).drew
                have s3 := And.intro (show (World.drew w8).cell? ⟨B, 6, none⟩ = some (.slice (some ⟨gN, 0, none⟩) nF cpN) by have := h3.cells.2.2.2.2.2.2.1; rw [hvN.out] at this; exact this) (And.intro (show (World.drew w8).cell? ⟨gN, p1.toNat, none⟩ = some (.slice (some ⟨gr, or, none⟩) lk cr) from (HR.out _ _ _ h3 rfl).1) (call_cells (w := World.drew w8) (HQ.out _ bi.drew)).2.1)
                have nbq : bq ≠ gr := fun e => by have := hL.out _ (e ▸ hLg); have := hbc.out; omega
                have s4 := And.intro (show (World.drew (World.setCell w8 ⟨gr, or + cN.toNat, none⟩ (.int .i64 tx))).cell? ⟨B, 6, none⟩ = some (.slice (some ⟨gN, 0, none⟩) nF cpN) by have := h4'.cells.2.2.2.2.2.2.1; rw [hvN.out] at this; exact this) (And.intro (by
                    obtain ⟨gN', ar', cr', e1, e2, e3, _⟩ := h4'.node (K := (X.F.getD p1.toNat []).set cN.toNat tx) (p := p1.toNat) hvN.out (by show (setF X.F p1.toNat cN.toNat tx)[p1.toNat]? = _; unfold setF; rw [List.getElem?_set_self (by have := hnF.out; omega)])
                    obtain rfl : gN = gN' := by simpa using e1
                    exact e2.trans (by rw [← e3, hrw.out]) : (World.drew (World.setCell w8 ⟨gr, or + cN.toNat, none⟩ (.int .i64 tx))).cell? ⟨gN, p1.toNat, none⟩ = some (.slice (some ⟨gr, or, none⟩) lk cr)) (call_cells (w := World.drew _) ((show (World.drew (World.setCell w8 ⟨gr, or + cN.toNat, none⟩ (.int .i64 tx))).heap[bq]? = w8.heap[bq]? from Below.heap_setCell _ ⟨gr, or + cN.toNat, none⟩ _ _ nbq).trans (HQ.out _ bi))).2.1)
                replace h4' := hid1 (h4'.below (Below.refl _ _).drew)
                clear h3 hz3
                replace hp1 := hid1 hp1
                go_region_held (fun wr => wr.cell? ⟨B, 6, none⟩ = some (.slice (some ⟨gN, 0, none⟩) nF cpN) ∧ wr.cell? ⟨gN, p1.toNat, none⟩ = some (.slice (some ⟨gr, or, none⟩) lk cr) ∧ wr.cell? ⟨bq, 1, none⟩ = some (.int .i64 cN)) (first | with_reducible exact s3 | with_reducible exact s4 | (trace_state; fail)) (fail)
                all_goals
                  go_wp2
                  go_ret
                  exact ⟨by rw [← hoz.out, le]; rfl, ⟨m, by rw [← hoz.out, le]; exact (h4'.out.up (fun i q => .inl q)).more (by omega)⟩, c4⟩
            · have f2 : ((aH : Int) == 0) = false := by simp; omega
              have sA : sameA aE aH aY 0 0 false = false := by unfold sameA; simp [gH]
              replace gE := hid1 gE
              replace gH := hid1 gH
              have le : wrO X k 4 cN cH cX cY aE aH aY = none := by unfold wrO; rw [hp1, htx.out, if_neg (by intro z; rcases z with z | z; omega; cases z), iF.out, if_neg (by decide), if_neg (by intro z; exact absurd z.1 (by decide)), h4.out, if_neg (by decide), show decide ((4 : Int) = 5) = false from rfl, sA]; rfl
              go_wp2
              go_ret
              exact ⟨by rw [← hoz.out, le]; rfl, ⟨m, by rw [← hoz.out, le]; exact ((HM.out _ bi).up (fun i q => .inl q)).more (by omega)⟩, Chg.of_below (seq_below bel bi)⟩
          · have f1 : (aE == 0) = false := by simp [gE]
            have sA : sameA aE aH aY 0 0 false = false := by unfold sameA; simp [gE]
            replace gE := hid1 gE
            have le : wrO X k 4 cN cH cX cY aE aH aY = none := by unfold wrO; rw [hp1, htx.out, if_neg (by intro z; rcases z with z | z; omega; cases z), iF.out, if_neg (by decide), if_neg (by intro z; exact absurd z.1 (by decide)), h4.out, if_neg (by decide), show decide ((4 : Int) = 5) = false from rfl, sA]; rfl
            go_wp2
            go_ret
            exact ⟨by rw [← hoz.out, le]; rfl, ⟨m, by rw [← hoz.out, le]; exact ((HM.out _ bi).up (fun i q => .inl q)).more (by omega)⟩, Chg.of_below (seq_below bel bi)⟩
  · rw [if_neg g1, decide_eq_false g1] at lk1
    refine region_below (by kernel_rfl) (by kernel_rfl) ?_
    repeat (first | go_big_quiet_skip | (go_big_quiet_want; go_big_quiet_op; first | go_big_quiet_on | (refine ⟨_, fun _ _ => rfl, ?_⟩; go_big_quiet_on) | (refine ⟨.map (some (m.bk k)), ?_, ?_⟩; (focus (intro w' hw'; have ck := HK.out w' (seq_below bi hw'); have y0 := ck.y0; have y1 := ck.y1; have y2 := ck.y2; simp [y0, Result.andThen]; done)); go_big_quiet_on) | (refine ⟨.int .u64 (cH : Nat), ?_, ?_⟩; (focus (intro w' hw'; obtain ⟨q0, q1, q2, q3, q4⟩ := call_cells (HQ.out w' (seq_below bi hw')); simp [q2, Result.andThen]; done)); go_big_quiet_on) | (refine ⟨.tuple #[.int .i64 0, .bool false], ?_, ?_⟩; (focus (intro w' hw'; have lk := lk1.out w' (seq_below bi hw'); first | (simp [lk, Result.andThen]; done) | exact lk; done)); go_big_quiet_on)))
    refine wpQuiet_nil ?_
    intro w8 hb8
    replace bi := seq_below bi hb8
    clear hb8
    go_upto_region 3 with fail
    have cNm := hid1 (named_any (HK.out _ bi) iv.out 4 cN (cH := cH) hcX hcY (by decide))
    obtain ⟨q0, q1, q2, q3, q4⟩ := call_cells (HQ.out _ bi)
    go_upto_region 5 with (go_at_call 71; rw [htx.out] at cNm; with_reducible refine cNm.out.mono ?_; rintro r w8 ⟨x, y, rfl, hxy, b⟩; replace bi := seq_below bi b; clear b; replace hxy := hid1 hxy)
    clear cNm
    clear q0 q1 q2 q3 q4
    have le : wrO X k 4 cN cH cX cY aE aH aY = refO X (sameA aE aH aY 2 0 false) := by unfold wrO; rw [hp1, htx.out, if_pos (.inl (by omega))]
    refine region_below (by kernel_rfl) (by kernel_rfl) ?_
    repeat (first | go_big_quiet_skip | (go_big_quiet_want; go_big_quiet_op; first | go_big_quiet_on | (refine ⟨_, fun _ _ => rfl, ?_⟩; go_big_quiet_on) | (refine ⟨.agg #[.int .i64 aE, .int .u64 (aH : Nat), .bool aY], ?_, ?_⟩; (focus (intro w' hw'; obtain ⟨a0, a1, a2⟩ := ans_cells (HA.out w' (seq_below bi hw')); simp [a0, a1, a2, Result.andThen]; done)); go_big_quiet_on) | (with_reducible refine ⟨_, (fun w' hw' => (refusal_any 2 w').mono fun _ _ ⟨he, hb⟩ => ⟨he, seq_below hw' hb⟩), ?_⟩; go_big_quiet_on) | (refine ⟨.bool (sameA aE aH aY 2 0 false), ?_, ?_⟩; (focus (intro w' hw'; unfold sameA; by_cases g1 : aE = 2 <;> by_cases g2 : aH = 0 <;> cases aY <;> simp [g1, g2, Result.andThen]; done)); go_big_quiet_on)))
    refine wpQuiet_nil ?_
    intro w8 hb8
    replace bi := seq_below bi hb8
    clear hb8
    go_wp2
    go_ret
    exact ⟨by rw [← hoz.out, le, refO_some]; rfl, ⟨m, by rw [← hoz.out, le, refO_get]; exact ((HM.out _ bi).up (fun i q => .inl q)).more (by omega)⟩, Chg.of_below (seq_below bel bi)⟩
end Go.Proofs.Ytecppcakgfohbab
