/- Next and Close. -/
import Derived.Test.YtecppcakgfohbabNR
import Derived.Test.YtecppcakgfohbabNJ
namespace Go.Proofs.Ytecppcakgfohbab
open Go.RowKit
set_option linter.unusedSimpArgs false
set_option linter.unusedVariables false

set_option maxRecDepth 100000 in
set_option maxHeartbeats 8000000 in
theorem goesOn_any {w : World} {B : Nat} {L : Nat → Prop} {C : Cg} {n : Nat} {X : Sx} {m : Md} (h : MdOk w B L C n X m) (hL : ∀ i, L i → i < w.heap.size) {N : Nat} (iv : X.Inv N) (hN : N < 1000000) (hn : n < 1000000) {k : Nat} (hk : k < C.c) (kd cN : Int) {cH cX cY : Nat} (hcH : cH < 18446744073709551616) (hcX : cX < 18446744073709551616) (hcY : cY < 18446744073709551616) (aE : Int) {aH : Nat} (hH : aH < 18446744073709551616) (aY : Bool) (hkd : kd = 9 ∨ kd = 10) :
    Calls Try.prog 60 #[.pointer (some ⟨B, 0, none⟩), .pointer (some ⟨m.Bc, 3 * k, none⟩), .agg #[.int .i64 kd, .int .i64 cN, .int .u64 (cH : Nat), .int .u64 (cX : Nat), .int .u64 (cY : Nat)], .agg #[.int .i64 aE, .int .u64 (aH : Nat), .bool aY]] w fun r w' => r = .returned (.bool (nxO C X k kd cH aE aH aY).isSome) ∧ (∃ m', MdOk w' B (Lup L w w') C (n + 2) ((nxO C X k kd cH aE aH aY).getD X) m') ∧ Chg L w w' := by
  have hnc := hid1 h.nc
  obtain ⟨oz, hoz⟩ : ∃ oz, nxO C X k kd cH aE aH aY = oz := ⟨_, rfl⟩
  rw [hoz]
  replace hoz := hid1 hoz
  have hq := new_obj w (.cells #[.int .i64 kd, .int .i64 cN, .int .u64 (cH : Nat), .int .u64 (cX : Nat), .int .u64 (cY : Nat)] 41)
  have b1 := alloc_below w (.cells #[.int .i64 kd, .int .i64 cN, .int .u64 (cH : Nat), .int .u64 (cX : Nat), .int .u64 (cY : Nat)] 41)
  have e1 : (w.alloc (.cells #[.int .i64 kd, .int .i64 cN, .int .u64 (cH : Nat), .int .u64 (cX : Nat), .int .u64 (cY : Nat)] 41)).heap.size = w.heap.size + 1 := by simp
  generalize hw1 : w.alloc (.cells #[.int .i64 kd, .int .i64 cN, .int .u64 (cH : Nat), .int .u64 (cX : Nat), .int .u64 (cY : Nat)] 41) = w0 at hq b1 e1
  have ha := new_obj w0 (.cells #[.int .i64 aE, .int .u64 (aH : Nat), .bool aY] 39)
  have b2 := alloc_below w0 (.cells #[.int .i64 aE, .int .u64 (aH : Nat), .bool aY] 39)
  replace hq := (b2.block _ (lt_of_block hq)).trans hq
  rw [e1] at ha
  have bel := seq_below b1 b2
  replace hw1 := hid1 hw1
  clear b1 b2 e1
  replace h := h.below bel
  have HM := hid1 (fun (w' : World) (b : Below (w0.alloc (.cells #[.int .i64 aE, .int .u64 (aH : Nat), .bool aY] 39)).heap.size (w0.alloc (.cells #[.int .i64 aE, .int .u64 (aH : Nat), .bool aY] 39)) w') => h.below b)
  have HK := hid1 (fun (w' : World) (b : Below (w0.alloc (.cells #[.int .i64 aE, .int .u64 (aH : Nat), .bool aY] 39)).heap.size (w0.alloc (.cells #[.int .i64 aE, .int .u64 (aH : Nat), .bool aY] 39)) w') => (h.below b).cq hk)
  have hp := hid1 (nodeF_lt iv.ok (k : Int))
  obtain ⟨o, ho⟩ : ∃ o, 3 * k = o := ⟨_, rfl⟩
  rw [ho] at HK ⊢
  replace ho := hid1 ho
  replace hk := hid1 hk
  replace hL := hid1 hL
  replace iv := hid1 iv
  clear h
  go_enter Try.func60, Try.ntmps60
  go_upto_region 1 with fail
  rw [hw1.out]
  clear hw1
  generalize World.alloc _ _ = w1 at *
  generalize hbc : w.heap.size = bq at hq ha ⊢
  replace hbc := hid1 hbc
  obtain ⟨ba, hba⟩ : ∃ ba, bq + 1 = ba := ⟨_, rfl⟩
  rw [hba] at ha ⊢
  replace hba := hid1 hba
  have HQ := hid1 (fun (w' : World) (b : Below w1.heap.size w1 w') => (b.block _ (lt_of_block hq)).trans hq)
  have HA := hid1 (fun (w' : World) (b : Below w1.heap.size w1 w') => (b.block _ (lt_of_block ha)).trans ha)
  have bi := Below.refl w1.heap.size w1
  obtain ⟨wk, hwk⟩ : ∃ wk, wkF X k = wk := ⟨_, rfl⟩
  by_cases gw : wkF X k = 0 ∨ cH ≠ wkF X k
  · rw [hwk] at gw
    by_cases g0 : wk = 0
    · have f0 : ((wk : Int) == 0) = true := by simp [g0]
      have gw2 : wkF X k = 0 ∨ cH ≠ wkF X k := .inl (by rw [hwk]; exact g0)
      replace hwk := hid1 hwk
      replace g0 := hid1 g0
      replace gw := hid1 gw
      refine region_below (by kernel_rfl) (by kernel_rfl) ?_
      repeat (first | go_big_quiet_skip | (go_big_quiet_want; go_big_quiet_op; first | go_big_quiet_on | (refine ⟨_, fun _ _ => rfl, ?_⟩; go_big_quiet_on) | (refine ⟨.int .u64 (wk : Nat), ?_, ?_⟩; (focus (intro w' hw'; have ck := HK.out w' (seq_below bi hw'); have y0 := ck.y0; have y1 := ck.y1; have y2 := ck.y2; rw [hwk.out] at y1; simp [y1, Result.andThen]; done)); go_big_quiet_on) | (refine ⟨.int .u64 (cH : Nat), ?_, ?_⟩; (focus (intro w' hw'; obtain ⟨q0, q1, q2, q3, q4⟩ := call_cells (HQ.out w' (seq_below bi hw')); simp [q2, Result.andThen]; done)); go_big_quiet_on)))
      refine wpQuiet_nil ?_
      intro w8 hb8
      replace bi := seq_below bi hb8
      clear hb8
      go_upto_region 2 with fail
      have le : nxO C X k kd cH aE aH aY = refO X (sameA aE aH aY 6 0 false) := by unfold nxO; rw [if_pos gw2]
      refine region_below (by kernel_rfl) (by kernel_rfl) ?_
      repeat (first | go_big_quiet_skip | (go_big_quiet_want; go_big_quiet_op; first | go_big_quiet_on | (refine ⟨_, fun _ _ => rfl, ?_⟩; go_big_quiet_on) | (refine ⟨.agg #[.int .i64 aE, .int .u64 (aH : Nat), .bool aY], ?_, ?_⟩; (focus (intro w' hw'; obtain ⟨a0, a1, a2⟩ := ans_cells (HA.out w' (seq_below bi hw')); simp [a0, a1, a2, Result.andThen]; done)); go_big_quiet_on) | (with_reducible refine ⟨_, (fun w' hw' => (refusal_any 6 w').mono fun _ _ ⟨he, hb⟩ => ⟨he, seq_below hw' hb⟩), ?_⟩; go_big_quiet_on) | (refine ⟨.bool (sameA aE aH aY 6 0 false), ?_, ?_⟩; (focus (intro w' hw'; unfold sameA; by_cases g1 : aE = 6 <;> by_cases g2 : aH = 0 <;> cases aY <;> simp [g1, g2, Result.andThen]; done)); go_big_quiet_on)))
      refine wpQuiet_nil ?_
      intro w8 hb8
      replace bi := seq_below bi hb8
      clear hb8
      go_wp2
      go_ret
      exact ⟨by rw [← hoz.out, le, refO_some]; rfl, ⟨m, by rw [← hoz.out, le, refO_get]; exact ((HM.out _ bi).up (fun i q => .inl q)).more (by omega)⟩, Chg.of_below (seq_below bel bi)⟩
    · have gh : ¬ cH = wk := fun z => by rcases gw with q | q; exact g0 q; exact q z
      have f0 : ((wk : Int) == 0) = false := by simp; omega
      have f1 : ((cH : Int) != (wk : Int)) = true := by simp; omega
      have gw2 : wkF X k = 0 ∨ cH ≠ wkF X k := .inr (by rw [hwk]; exact gh)
      replace hwk := hid1 hwk
      replace g0 := hid1 g0
      replace gh := hid1 gh
      replace gw := hid1 gw
      refine region_below (by kernel_rfl) (by kernel_rfl) ?_
      repeat (first | go_big_quiet_skip | (go_big_quiet_want; go_big_quiet_op; first | go_big_quiet_on | (refine ⟨_, fun _ _ => rfl, ?_⟩; go_big_quiet_on) | (refine ⟨.int .u64 (wk : Nat), ?_, ?_⟩; (focus (intro w' hw'; have ck := HK.out w' (seq_below bi hw'); have y0 := ck.y0; have y1 := ck.y1; have y2 := ck.y2; rw [hwk.out] at y1; simp [y1, Result.andThen]; done)); go_big_quiet_on) | (refine ⟨.int .u64 (cH : Nat), ?_, ?_⟩; (focus (intro w' hw'; obtain ⟨q0, q1, q2, q3, q4⟩ := call_cells (HQ.out w' (seq_below bi hw')); simp [q2, Result.andThen]; done)); go_big_quiet_on)))
      refine wpQuiet_nil ?_
      intro w8 hb8
      replace bi := seq_below bi hb8
      clear hb8
      go_upto_region 2 with fail
      have le : nxO C X k kd cH aE aH aY = refO X (sameA aE aH aY 6 0 false) := by unfold nxO; rw [if_pos gw2]
      refine region_below (by kernel_rfl) (by kernel_rfl) ?_
      repeat (first | go_big_quiet_skip | (go_big_quiet_want; go_big_quiet_op; first | go_big_quiet_on | (refine ⟨_, fun _ _ => rfl, ?_⟩; go_big_quiet_on) | (refine ⟨.agg #[.int .i64 aE, .int .u64 (aH : Nat), .bool aY], ?_, ?_⟩; (focus (intro w' hw'; obtain ⟨a0, a1, a2⟩ := ans_cells (HA.out w' (seq_below bi hw')); simp [a0, a1, a2, Result.andThen]; done)); go_big_quiet_on) | (with_reducible refine ⟨_, (fun w' hw' => (refusal_any 6 w').mono fun _ _ ⟨he, hb⟩ => ⟨he, seq_below hw' hb⟩), ?_⟩; go_big_quiet_on) | (refine ⟨.bool (sameA aE aH aY 6 0 false), ?_, ?_⟩; (focus (intro w' hw'; unfold sameA; by_cases g1 : aE = 6 <;> by_cases g2 : aH = 0 <;> cases aY <;> simp [g1, g2, Result.andThen]; done)); go_big_quiet_on)))
      refine wpQuiet_nil ?_
      intro w8 hb8
      replace bi := seq_below bi hb8
      clear hb8
      go_wp2
      go_ret
      exact ⟨by rw [← hoz.out, le, refO_some]; rfl, ⟨m, by rw [← hoz.out, le, refO_get]; exact ((HM.out _ bi).up (fun i q => .inl q)).more (by omega)⟩, Chg.of_below (seq_below bel bi)⟩
  · have g0 : ¬ wk = 0 := fun z => gw (.inl (by rw [hwk]; exact z))
    have gh : cH = wk := by
      by_cases z : cH = wk
      · exact z
      · exact absurd (.inr (by rw [hwk]; exact z)) gw
    have f0 : ((wk : Int) == 0) = false := by simp; omega
    have f1 : ((cH : Int) != (wk : Int)) = false := by simp [gh]
    replace hwk := hid1 hwk
    replace g0 := hid1 g0
    replace gh := hid1 gh
    refine region_below (by kernel_rfl) (by kernel_rfl) ?_
    repeat (first | go_big_quiet_skip | (go_big_quiet_want; go_big_quiet_op; first | go_big_quiet_on | (refine ⟨_, fun _ _ => rfl, ?_⟩; go_big_quiet_on) | (refine ⟨.int .u64 (wk : Nat), ?_, ?_⟩; (focus (intro w' hw'; have ck := HK.out w' (seq_below bi hw'); have y0 := ck.y0; have y1 := ck.y1; have y2 := ck.y2; rw [hwk.out] at y1; simp [y1, Result.andThen]; done)); go_big_quiet_on) | (refine ⟨.int .u64 (cH : Nat), ?_, ?_⟩; (focus (intro w' hw'; obtain ⟨q0, q1, q2, q3, q4⟩ := call_cells (HQ.out w' (seq_below bi hw')); simp [q2, Result.andThen]; done)); go_big_quiet_on)))
    refine wpQuiet_nil ?_
    intro w8 hb8
    replace bi := seq_below bi hb8
    clear hb8
    clear f0 f1
    obtain ⟨q0, q1, q2, q3, q4⟩ := call_cells (HQ.out _ bi)
    rcases hkd with rfl | rfl
    · go_upto_region 5 with fail
      clear q0 q1 q2 q3 q4
      have gw' := hid1 gw
      obtain ⟨cl, hcs⟩ : ∃ cl, cmF X k = cl := ⟨_, rfl⟩
      have hcm : cmF X k ∈ X.M := by
        have h2 := iv.out.M2
        have hk2 := hk.out
        have h3 := hnc.out
        unfold cmF
        rw [List.getD_eq_getElem?_getD, Int.toNat_natCast, List.getElem?_eq_getElem (by omega)]
        exact List.getElem_mem _
      have zc := (HK.out _ bi).z
      obtain ⟨adC, cpC, hcv, _, hneC⟩ := zc.form
      rw [hcs] at hcv hneC
      have ck := HK.out _ bi
      have y0 := ck.y0
      have y1 := ck.y1
      have y2 := ck.y2
      clear ck
      cases cl with
      | nil =>
        rw [hcv] at y2
        replace hcs := hid1 hcs
        replace hcv := hid1 hcv
        go_upto_region 6 with fail
        clear y0 y1 y2
        have le : nxO C X k 9 cH aE aH aY = refO X (sameA aE aH aY 6 0 false) := by unfold nxO; rw [if_neg gw, if_neg (by decide), if_pos hcs.out]
        refine region_below (by kernel_rfl) (by kernel_rfl) ?_
        repeat (first | go_big_quiet_skip | (go_big_quiet_want; go_big_quiet_op; first | go_big_quiet_on | (refine ⟨_, fun _ _ => rfl, ?_⟩; go_big_quiet_on) | (refine ⟨.agg #[.int .i64 aE, .int .u64 (aH : Nat), .bool aY], ?_, ?_⟩; (focus (intro w' hw'; obtain ⟨a0, a1, a2⟩ := ans_cells (HA.out w' (seq_below bi hw')); simp [a0, a1, a2, Result.andThen]; done)); go_big_quiet_on) | (with_reducible refine ⟨_, (fun w' hw' => (refusal_any 6 w').mono fun _ _ ⟨he, hb⟩ => ⟨he, seq_below hw' hb⟩), ?_⟩; go_big_quiet_on) | (refine ⟨.bool (sameA aE aH aY 6 0 false), ?_, ?_⟩; (focus (intro w' hw'; unfold sameA; by_cases g1 : aE = 6 <;> by_cases g2 : aH = 0 <;> cases aY <;> simp [g1, g2, Result.andThen]; done)); go_big_quiet_on)))
        refine wpQuiet_nil ?_
        intro w8 hb8
        replace bi := seq_below bi hb8
        clear hb8
        go_wp2
        go_ret
        exact ⟨by rw [← hoz.out, le, refO_some]; rfl, ⟨m, by rw [← hoz.out, le, refO_get]; exact ((HM.out _ bi).up (fun i q => .inl q)).more (by omega)⟩, Chg.of_below (seq_below bel bi)⟩
      | cons x xs =>
        obtain ⟨gc, oc, rfl⟩ := hneC (by intro z; cases z)
        obtain ⟨lc, hlc0⟩ : ∃ lc, (x :: xs).length = lc := ⟨_, rfl⟩
        rw [hlc0] at hcv
        rw [hcv] at y2
        have hlc4 : lc ≠ 0 := by rw [← hlc0]; simp
        have hlp : ((lc : Int) == 0) = false := by simp; omega
        have hlpos : (0 : Int) < (lc : Int) := by omega
        replace hlc4 : ¬ lc = 0 := hlc4
        replace hcs := hid1 hcs
        replace hcv := hid1 hcv
        replace hlc0 := hid1 hlc0
        clear zc hneC
        go_upto_region 7 with fail
        clear y0 y1 y2 hlp
        obtain ⟨rU, hful⟩ : ∃ rU, fullF C X k = rU := ⟨_, rfl⟩
        have cU : Calls Try.prog 67 #[.pointer (some ⟨B, 0, none⟩), .pointer (some ⟨m.Bc, o, none⟩)] w8 fun r w' => r = .returned (.bool (fullF C X k)) ∧ Below w8.heap.size w8 w' := full_any (HM.out _ bi) (HK.out _ bi)
        rw [hful] at cU
        replace cU := hid1 cU
        replace hful := hid1 hful
        cases rU with
        | true =>
          go_upto_region 8 with (go_at_call 67; with_reducible refine cU.out.mono ?_; rintro r w8 ⟨rfl, b⟩; replace bi := seq_below bi b; clear b)
          clear cU
          have le : nxO C X k 9 cH aE aH aY = refO X (sameA aE aH aY 5 0 false) := by unfold nxO; rw [if_neg gw, if_neg (by decide), if_neg (by rw [hcs.out]; intro z; cases z), hful.out, if_pos rfl]
          refine region_below (by kernel_rfl) (by kernel_rfl) ?_
          repeat (first | go_big_quiet_skip | (go_big_quiet_want; go_big_quiet_op; first | go_big_quiet_on | (refine ⟨_, fun _ _ => rfl, ?_⟩; go_big_quiet_on) | (refine ⟨.agg #[.int .i64 aE, .int .u64 (aH : Nat), .bool aY], ?_, ?_⟩; (focus (intro w' hw'; obtain ⟨a0, a1, a2⟩ := ans_cells (HA.out w' (seq_below bi hw')); simp [a0, a1, a2, Result.andThen]; done)); go_big_quiet_on) | (with_reducible refine ⟨_, (fun w' hw' => (refusal_any 5 w').mono fun _ _ ⟨he, hb⟩ => ⟨he, seq_below hw' hb⟩), ?_⟩; go_big_quiet_on) | (refine ⟨.bool (sameA aE aH aY 5 0 false), ?_, ?_⟩; (focus (intro w' hw'; unfold sameA; by_cases g1 : aE = 5 <;> by_cases g2 : aH = 0 <;> cases aY <;> simp [g1, g2, Result.andThen]; done)); go_big_quiet_on)))
          refine wpQuiet_nil ?_
          intro w8 hb8
          replace bi := seq_below bi hb8
          clear hb8
          go_wp2
          go_ret
          exact ⟨by rw [← hoz.out, le, refO_some]; rfl, ⟨m, by rw [← hoz.out, le, refO_get]; exact ((HM.out _ bi).up (fun i q => .inl q)).more (by omega)⟩, Chg.of_below (seq_below bel bi)⟩
        | false =>
          go_upto_region 9 with (go_at_call 67; with_reducible refine cU.out.mono ?_; rintro r w8 ⟨rfl, b⟩; replace bi := seq_below bi b; clear b)
          clear cU
          obtain ⟨w3, hw3⟩ : ∃ w3, World.drew w8 = w3 := ⟨_, rfl⟩
          have b3 : Below w1.heap.size w1 w3 := by rw [← hw3]; exact bi.drew
          have hL3 : ∀ i, L i → i < w3.heap.size := fun i q => Nat.lt_of_lt_of_le (hL.out i q) (Nat.le_trans bel.size b3.size)
          have hxr : 0 ≤ x ∧ x < X.F.length := iv.out.ok.comes _ hcm x (by rw [hcs.out]; exact List.mem_cons_self ..)
          have cT := takes_any (HM.out _ b3) hL3 iv.out (by omega) hk.out (nd := x) hxr.1 (by have := iv.out.nF; omega) aE hH aY
          rw [ho.out] at cT
          obtain ⟨rG, hG⟩ : ∃ rG, gvB X aE aH aY = rG := ⟨_, rfl⟩
          have hoT : tkO X k x aE aH aY = if rG = true then some (tkS X k aH x) else none := by unfold tkO; rw [hG]
          rw [hoT] at cT
          have HS := hid1 (fun (wr : World) (n' : Nat) (X' : Sx) (hm : MdOk wr B L C n' X' m) (hM : X'.M = X.M) (qa : wr.heap[ba]? = some (.cells #[.int .i64 aE, .int .u64 (aH : Nat), .bool aY] 39 (0, 0))) => (by
            have ck := hm.cq hk.out
            have y2 := ck.y2
            have z := ck.z
            rw [ho.out, hcv.out] at y2
            rw [hcv.out, show cmF X' k = x :: xs from (by unfold cmF; rw [hM]; exact hcs.out)] at z
            exact ⟨y2, by have := z.cell 0 (by simp); simpa using this, (ans_cells qa).1, (ans_cells qa).2.1, (ans_cells qa).2.2⟩ : wr.cell? ⟨m.Bc, o + 2, none⟩ = some (.slice (some ⟨gc, oc, none⟩) lc cpC) ∧ wr.cell? ⟨gc, oc, none⟩ = some (.int .i64 x) ∧ wr.cell? ⟨ba, 0, none⟩ = some (.int .i64 aE) ∧ wr.cell? ⟨ba, 1, none⟩ = some (.int .u64 (aH : Nat)) ∧ wr.cell? ⟨ba, 2, none⟩ = some (.bool aY)))
          have s3 := HS.out _ _ _ (HM.out _ b3) rfl (HA.out _ b3)
          have nba : ¬ L ba := fun q => by have := hL.out _ q; have := hbc.out; have := hba.out; omega
          have sT := fun (w2 : World) (n' : Nat) (X' : Sx) (h2 : MdOk w2 B L C n' X' m) (hM : X'.M = X.M) (c2 : Chg L w3 w2) => HS.out w2 _ _ h2 hM ((c2.block _ (lt_of_block (HA.out _ b3)) nba).trans (HA.out _ b3))
          replace sT := hid1 sT
          replace hoT := hid1 hoT
          replace nba := hid1 nba
          clear hxr
          cases rG with
          | false =>
            rw [if_neg (by decide)] at cT
            replace cT := hid1 cT
            refine wp_region_held_drew (S := fun wr => wr.cell? ⟨m.Bc, o + 2, none⟩ = some (.slice (some ⟨gc, oc, none⟩) lc cpC) ∧ wr.cell? ⟨gc, oc, none⟩ = some (.int .i64 x) ∧ wr.cell? ⟨ba, 0, none⟩ = some (.int .i64 aE) ∧ wr.cell? ⟨ba, 1, none⟩ = some (.int .u64 (aH : Nat)) ∧ wr.cell? ⟨ba, 2, none⟩ = some (.bool aY)) (by kernel_rfl) (by rw [hw3]; exact s3) (fun hS1 => ?_)
            clear s3
            rw [hw3] at hS1 ⊢
            refine wpAnyH_take (i := 0) (oi := { dst := some 52, op := Go.Op.move (Go.Operand.tmp 0), type := 60, pos := "does.go:212", after := #[], guard := none }) (v := .pointer (some ⟨B, 0, none⟩)) rfl (by kernel_rfl) (by kernel_rfl) (by kernel_rfl) (fun _ _ _ h => h) (Or.inl ⟨by rfl, fun w hSw => by (try dsimp only at hSw); go_simp⟩) hS1 ?_
            simp only [Act.put, List.setIfInBounds_toArray, List.set_cons_zero, List.set_cons_succ]
            refine wpAnyH_take (i := 1) (oi := { dst := some 53, op := Go.Op.move (Go.Operand.tmp 1), type := 98, pos := "does.go:212", after := #[], guard := none }) (v := .pointer (some ⟨m.Bc, o, none⟩)) rfl (by kernel_rfl) (by kernel_rfl) (by kernel_rfl) (fun _ _ _ h => h) (Or.inl ⟨by rfl, fun w hSw => by (try dsimp only at hSw); go_simp⟩) hS1 ?_
            simp only [Act.put, List.setIfInBounds_toArray, List.set_cons_zero, List.set_cons_succ]
            refine wpAnyH_take (i := 2) (oi := { dst := some 54, op := Go.Op.move (Go.Operand.tmp 1), type := 98, pos := "does.go:212", after := #[], guard := none }) (v := .pointer (some ⟨m.Bc, o, none⟩)) rfl (by kernel_rfl) (by kernel_rfl) (by kernel_rfl) (fun _ _ _ h => h) (Or.inl ⟨by rfl, fun w hSw => by (try dsimp only at hSw); go_simp⟩) hS1 ?_
            simp only [Act.put, List.setIfInBounds_toArray, List.set_cons_zero, List.set_cons_succ]
            refine wpAnyH_take (i := 3) (oi := { dst := some 55, op := Go.Op.nilCheck (Go.Operand.tmp 54), type := 0, pos := "does.go:212", after := #[{ on := 2, ground := Go.Ground.data }], guard := none }) (v := .pointer (some ⟨m.Bc, o, none⟩)) rfl (by kernel_rfl) (by kernel_rfl) (by kernel_rfl) (fun _ _ _ h => h) (Or.inl ⟨by rfl, fun w hSw => by (try dsimp only at hSw); go_simp⟩) hS1 ?_
            simp only [Act.put, List.setIfInBounds_toArray, List.set_cons_zero, List.set_cons_succ]
            refine wpAnyH_take (i := 4) (oi := { dst := some 56, op := Go.Op.fieldAddr 83 (Go.Operand.tmp 55) 2, type := 0, pos := "does.go:212", after := #[{ on := 3, ground := Go.Ground.data }], guard := none }) (v := .pointer (some ⟨m.Bc, o + 2, none⟩)) rfl (by kernel_rfl) (by kernel_rfl) (by kernel_rfl) (fun _ _ _ h => h) (Or.inl ⟨by rfl, fun w hSw => by (try dsimp only at hSw); go_simp⟩) hS1 ?_
            simp only [Act.put, List.setIfInBounds_toArray, List.set_cons_zero, List.set_cons_succ]
            refine wpAnyH_take (i := 5) (oi := { dst := some 57, op := Go.Op.load 25 (Go.Operand.tmp 56), type := 25, pos := "does.go:212", after := #[{ on := 4, ground := Go.Ground.data }], guard := none }) (v := .slice (some ⟨gc, oc, none⟩) lc cpC) rfl (by kernel_rfl) (by kernel_rfl) (by kernel_rfl) (fun _ _ _ h => h) (Or.inl ⟨by rfl, fun w hSw => by (try dsimp only at hSw); go_simp⟩) hS1 ?_
            simp only [Act.put, List.setIfInBounds_toArray, List.set_cons_zero, List.set_cons_succ]
            refine wpAnyH_take (i := 6) (oi := { dst := some 58, op := Go.Op.indexAddr 25 (Go.Operand.tmp 57) (Go.Operand.const (Go.Value.int Go.IntKind.i64 0)), type := 0, pos := "does.go:212", after := #[{ on := 5, ground := Go.Ground.data }], guard := none }) (v := .pointer (some ⟨gc, oc, none⟩)) rfl (by kernel_rfl) (by kernel_rfl) (by kernel_rfl) (fun _ _ _ h => h) (Or.inl ⟨by rfl, fun w hSw => by (try dsimp only at hSw); go_simp⟩) hS1 ?_
            simp only [Act.put, List.setIfInBounds_toArray, List.set_cons_zero, List.set_cons_succ]
            refine wpAnyH_take (i := 7) (oi := { dst := some 59, op := Go.Op.load 3 (Go.Operand.tmp 58), type := 3, pos := "does.go:212", after := #[{ on := 6, ground := Go.Ground.data }], guard := none }) (v := .int .i64 x) rfl (by kernel_rfl) (by kernel_rfl) (by kernel_rfl) (fun _ _ _ h => h) (Or.inl ⟨by rfl, fun w hSw => by (try dsimp only at hSw); go_simp⟩) hS1 ?_
            simp only [Act.put, List.setIfInBounds_toArray, List.set_cons_zero, List.set_cons_succ]
            refine wpAnyH_take (i := 8) (oi := { dst := some 60, op := Go.Op.load 39 (Go.Operand.tmp 7), type := 39, pos := "does.go:212", after := #[], guard := none }) (v := .agg #[.int .i64 aE, .int .u64 (aH : Nat), .bool aY]) rfl (by kernel_rfl) (by kernel_rfl) (by kernel_rfl) (fun _ _ _ h => h) (Or.inl ⟨by rfl, fun w hSw => by (try dsimp only at hSw); go_simp⟩) hS1 ?_
            simp only [Act.put, List.setIfInBounds_toArray, List.set_cons_zero, List.set_cons_succ]
            refine wpAnyH_ready (rs := [9]) (by kernel_rfl) (by simp) (AllReadyH.cons (o := { dst := some 61, op := Go.Op.call { callee := Go.Callee.value (Go.Operand.func 68), args := #[Go.Operand.tmp 52, Go.Operand.tmp 53, Go.Operand.tmp 59, Go.Operand.tmp 60], argTypes := #[60, 98, 3, 39] }, type := 4, pos := "does.go:212", after := #[{ on := 0, ground := Go.Ground.data }, { on := 1, ground := Go.Ground.data }, { on := 7, ground := Go.Ground.data }, { on := 8, ground := Go.Ground.data }], guard := none }) rfl (fun K hK => ?_) AllReadyH.nil)
            go_simp
            go_at_call 68
            with_reducible refine cT.out.mono ?_
            rintro r w2 ⟨rfl, h2, c2⟩
            (try simp only [])
            have s4 := sT.out _ _ _ h2 rfl c2
            refine hK.out _ _ s4 (fun hS1 => ?_)
            (try simp only [Act.put, List.setIfInBounds_toArray, List.set_cons_zero, List.set_cons_succ])
            clear hK K
            refine wpAnyH_take (i := 10) (oi := { dst := some 62, op := Go.Op.unOp Go.UnOp.not 4 (Go.Operand.tmp 61), type := 4, pos := "does.go:212", after := #[{ on := 9, ground := Go.Ground.data }], guard := none }) (v := .bool true) rfl (by kernel_rfl) (by kernel_rfl) (by kernel_rfl) (fun _ _ _ h => h) (Or.inl ⟨by rfl, fun w hSw => by (try dsimp only at hSw); go_simp⟩) hS1 ?_
            simp only [Act.put, List.setIfInBounds_toArray, List.set_cons_zero, List.set_cons_succ]
            refine wpAnyH_take (i := 11) (oi := { dst := some 51, op := Go.Op.assign (Go.Operand.tmp 62), type := 4, pos := "does.go:212", after := #[{ on := 10, ground := Go.Ground.data }, { on := 9, ground := Go.Ground.chain }], guard := none }) (v := .bool true) rfl (by kernel_rfl) (by kernel_rfl) (by kernel_rfl) (fun _ _ _ h => h) (Or.inl ⟨by rfl, fun w hSw => by (try dsimp only at hSw); go_simp⟩) hS1 ?_
            simp only [Act.put, List.setIfInBounds_toArray, List.set_cons_zero, List.set_cons_succ]
            refine wpAnyH_done (by kernel_rfl) ?_ _
            clear hS1
            clear s4
            have le : nxO C X k 9 cH aE aH aY = none := by unfold nxO; rw [if_neg gw, if_neg (by decide), if_neg (by rw [hcs.out]; intro z; cases z), hful.out, if_neg (by decide), hG, if_neg (by decide)]
            go_wp2
            go_ret
            exact ⟨by rw [← hoz.out, le]; rfl, ⟨m, by rw [← hoz.out, le]; exact h2.up (fun i q => .inl q)⟩, (Chg.of_below (seq_below bel b3)).trans (c2.widen (seq_below bel b3))⟩
          | true =>
            rw [if_pos rfl] at cT
            replace cT := hid1 cT
            refine wp_region_held_drew (S := fun wr => wr.cell? ⟨m.Bc, o + 2, none⟩ = some (.slice (some ⟨gc, oc, none⟩) lc cpC) ∧ wr.cell? ⟨gc, oc, none⟩ = some (.int .i64 x) ∧ wr.cell? ⟨ba, 0, none⟩ = some (.int .i64 aE) ∧ wr.cell? ⟨ba, 1, none⟩ = some (.int .u64 (aH : Nat)) ∧ wr.cell? ⟨ba, 2, none⟩ = some (.bool aY)) (by kernel_rfl) (by rw [hw3]; exact s3) (fun hS1 => ?_)
            clear s3
            rw [hw3] at hS1 ⊢
            refine wpAnyH_take (i := 0) (oi := { dst := some 52, op := Go.Op.move (Go.Operand.tmp 0), type := 60, pos := "does.go:212", after := #[], guard := none }) (v := .pointer (some ⟨B, 0, none⟩)) rfl (by kernel_rfl) (by kernel_rfl) (by kernel_rfl) (fun _ _ _ h => h) (Or.inl ⟨by rfl, fun w hSw => by (try dsimp only at hSw); go_simp⟩) hS1 ?_
            simp only [Act.put, List.setIfInBounds_toArray, List.set_cons_zero, List.set_cons_succ]
            refine wpAnyH_take (i := 1) (oi := { dst := some 53, op := Go.Op.move (Go.Operand.tmp 1), type := 98, pos := "does.go:212", after := #[], guard := none }) (v := .pointer (some ⟨m.Bc, o, none⟩)) rfl (by kernel_rfl) (by kernel_rfl) (by kernel_rfl) (fun _ _ _ h => h) (Or.inl ⟨by rfl, fun w hSw => by (try dsimp only at hSw); go_simp⟩) hS1 ?_
            simp only [Act.put, List.setIfInBounds_toArray, List.set_cons_zero, List.set_cons_succ]
            refine wpAnyH_take (i := 2) (oi := { dst := some 54, op := Go.Op.move (Go.Operand.tmp 1), type := 98, pos := "does.go:212", after := #[], guard := none }) (v := .pointer (some ⟨m.Bc, o, none⟩)) rfl (by kernel_rfl) (by kernel_rfl) (by kernel_rfl) (fun _ _ _ h => h) (Or.inl ⟨by rfl, fun w hSw => by (try dsimp only at hSw); go_simp⟩) hS1 ?_
            simp only [Act.put, List.setIfInBounds_toArray, List.set_cons_zero, List.set_cons_succ]
            refine wpAnyH_take (i := 3) (oi := { dst := some 55, op := Go.Op.nilCheck (Go.Operand.tmp 54), type := 0, pos := "does.go:212", after := #[{ on := 2, ground := Go.Ground.data }], guard := none }) (v := .pointer (some ⟨m.Bc, o, none⟩)) rfl (by kernel_rfl) (by kernel_rfl) (by kernel_rfl) (fun _ _ _ h => h) (Or.inl ⟨by rfl, fun w hSw => by (try dsimp only at hSw); go_simp⟩) hS1 ?_
            simp only [Act.put, List.setIfInBounds_toArray, List.set_cons_zero, List.set_cons_succ]
            refine wpAnyH_take (i := 4) (oi := { dst := some 56, op := Go.Op.fieldAddr 83 (Go.Operand.tmp 55) 2, type := 0, pos := "does.go:212", after := #[{ on := 3, ground := Go.Ground.data }], guard := none }) (v := .pointer (some ⟨m.Bc, o + 2, none⟩)) rfl (by kernel_rfl) (by kernel_rfl) (by kernel_rfl) (fun _ _ _ h => h) (Or.inl ⟨by rfl, fun w hSw => by (try dsimp only at hSw); go_simp⟩) hS1 ?_
            simp only [Act.put, List.setIfInBounds_toArray, List.set_cons_zero, List.set_cons_succ]
            refine wpAnyH_take (i := 5) (oi := { dst := some 57, op := Go.Op.load 25 (Go.Operand.tmp 56), type := 25, pos := "does.go:212", after := #[{ on := 4, ground := Go.Ground.data }], guard := none }) (v := .slice (some ⟨gc, oc, none⟩) lc cpC) rfl (by kernel_rfl) (by kernel_rfl) (by kernel_rfl) (fun _ _ _ h => h) (Or.inl ⟨by rfl, fun w hSw => by (try dsimp only at hSw); go_simp⟩) hS1 ?_
            simp only [Act.put, List.setIfInBounds_toArray, List.set_cons_zero, List.set_cons_succ]
            refine wpAnyH_take (i := 6) (oi := { dst := some 58, op := Go.Op.indexAddr 25 (Go.Operand.tmp 57) (Go.Operand.const (Go.Value.int Go.IntKind.i64 0)), type := 0, pos := "does.go:212", after := #[{ on := 5, ground := Go.Ground.data }], guard := none }) (v := .pointer (some ⟨gc, oc, none⟩)) rfl (by kernel_rfl) (by kernel_rfl) (by kernel_rfl) (fun _ _ _ h => h) (Or.inl ⟨by rfl, fun w hSw => by (try dsimp only at hSw); go_simp⟩) hS1 ?_
            simp only [Act.put, List.setIfInBounds_toArray, List.set_cons_zero, List.set_cons_succ]
            refine wpAnyH_take (i := 7) (oi := { dst := some 59, op := Go.Op.load 3 (Go.Operand.tmp 58), type := 3, pos := "does.go:212", after := #[{ on := 6, ground := Go.Ground.data }], guard := none }) (v := .int .i64 x) rfl (by kernel_rfl) (by kernel_rfl) (by kernel_rfl) (fun _ _ _ h => h) (Or.inl ⟨by rfl, fun w hSw => by (try dsimp only at hSw); go_simp⟩) hS1 ?_
            simp only [Act.put, List.setIfInBounds_toArray, List.set_cons_zero, List.set_cons_succ]
            refine wpAnyH_take (i := 8) (oi := { dst := some 60, op := Go.Op.load 39 (Go.Operand.tmp 7), type := 39, pos := "does.go:212", after := #[], guard := none }) (v := .agg #[.int .i64 aE, .int .u64 (aH : Nat), .bool aY]) rfl (by kernel_rfl) (by kernel_rfl) (by kernel_rfl) (fun _ _ _ h => h) (Or.inl ⟨by rfl, fun w hSw => by (try dsimp only at hSw); go_simp⟩) hS1 ?_
            simp only [Act.put, List.setIfInBounds_toArray, List.set_cons_zero, List.set_cons_succ]
            refine wpAnyH_ready (rs := [9]) (by kernel_rfl) (by simp) (AllReadyH.cons (o := { dst := some 61, op := Go.Op.call { callee := Go.Callee.value (Go.Operand.func 68), args := #[Go.Operand.tmp 52, Go.Operand.tmp 53, Go.Operand.tmp 59, Go.Operand.tmp 60], argTypes := #[60, 98, 3, 39] }, type := 4, pos := "does.go:212", after := #[{ on := 0, ground := Go.Ground.data }, { on := 1, ground := Go.Ground.data }, { on := 7, ground := Go.Ground.data }, { on := 8, ground := Go.Ground.data }], guard := none }) rfl (fun K hK => ?_) AllReadyH.nil)
            go_simp
            go_at_call 68
            with_reducible refine cT.out.mono ?_
            rintro r w2 ⟨rfl, h2, c2⟩
            (try simp only [])
            have s4 := sT.out _ _ _ h2 rfl c2
            refine hK.out _ _ s4 (fun hS1 => ?_)
            (try simp only [Act.put, List.setIfInBounds_toArray, List.set_cons_zero, List.set_cons_succ])
            clear hK K
            refine wpAnyH_take (i := 10) (oi := { dst := some 62, op := Go.Op.unOp Go.UnOp.not 4 (Go.Operand.tmp 61), type := 4, pos := "does.go:212", after := #[{ on := 9, ground := Go.Ground.data }], guard := none }) (v := .bool false) rfl (by kernel_rfl) (by kernel_rfl) (by kernel_rfl) (fun _ _ _ h => h) (Or.inl ⟨by rfl, fun w hSw => by (try dsimp only at hSw); go_simp⟩) hS1 ?_
            simp only [Act.put, List.setIfInBounds_toArray, List.set_cons_zero, List.set_cons_succ]
            refine wpAnyH_take (i := 11) (oi := { dst := some 51, op := Go.Op.assign (Go.Operand.tmp 62), type := 4, pos := "does.go:212", after := #[{ on := 10, ground := Go.Ground.data }, { on := 9, ground := Go.Ground.chain }], guard := none }) (v := .bool false) rfl (by kernel_rfl) (by kernel_rfl) (by kernel_rfl) (fun _ _ _ h => h) (Or.inl ⟨by rfl, fun w hSw => by (try dsimp only at hSw); go_simp⟩) hS1 ?_
            simp only [Act.put, List.setIfInBounds_toArray, List.set_cons_zero, List.set_cons_succ]
            refine wpAnyH_done (by kernel_rfl) ?_ _
            clear hS1
            have le : nxO C X k 9 cH aE aH aY = some (nxS X k aH) := by unfold nxO; rw [if_neg gw, if_neg (by decide), if_neg (by rw [hcs.out]; intro z; cases z), hful.out, if_neg (by decide), hG, if_pos rfl]
            go_upto_region 11 with fail
            have h2' : MdOk w2 B L C (n + 2) (tkS X k aH x) m := h2
            have y2 := s4.1
            have f2 := cells_free h2'.cl (o + 2)
            have zz := (h2'.cq hk.out).z
            rw [hcv.out, show cmF (tkS X k aH x) k = x :: xs from hcs.out] at zz
            have zt := zz.tails
            obtain ⟨adT, hadT⟩ : ∃ a, (if cpC = 1 then some (⟨gc, oc, none⟩ : Addr) else some ⟨gc, oc + 1, none⟩) = a := ⟨_, rfl⟩
            rw [hadT] at zt
            have hlc := zz.len
            have elc : lc = xs.length + 1 := by have := hlc.1; simpa using this
            have lc1 : (1 : Int) ≤ (lc : Int) := by omega
            have lc2 : lc - 1 = xs.length := by omega
            have lc3 : (lc : Int) ≤ (cpC : Int) := by have := hlc.2.1; omega
            have ck3 := h2'.cq hk.out
            have h7 := h2'.come (L' := L) (k := k) (v := .slice adT xs.length (cpC - 1)) (l := xs) (by have q1 := iv.out.M2; have q2 := hnc.out; have q3 := hk.out; show k < X.M.length; omega) hk.out zt (fun r hr g hg e => by
                have e2 : (Value.slice adT xs.length (cpC - 1)).ownBlock = (m.ck k).ownBlock := by
                  rw [hcv.out, ← hadT]
                  split <;> rfl
                rw [e2] at e
                exact h2'.d0 r hr g hg k hk.out e) (fun i q => q) (fun g e => by
                have e2 : (Value.slice adT xs.length (cpC - 1)).ownBlock = (m.ck k).ownBlock := by
                  rw [hcv.out, ← hadT]
                  split <;> rfl
                rw [e2] at e
                exact h2'.LM k hk.out g e)
            rw [ho.out] at h7
            have c7 := c2.setCell (b := m.Bc) (o := o + 2) (.inl h2'.LB.2.1) (.slice adT xs.length (cpC - 1))
            have eX : { tkS X k aH x with M := (tkS X k aH x).M.set k xs } = nxS X k aH := by
              unfold nxS
              rw [hcs.out]
              rfl
            rw [eX] at h7
            replace h7 := hid1 h7
            replace elc := hid1 elc
            clear zz zt h2 h2' s4 hlc ck3
            go_wp2
            go_ret
            exact ⟨by rw [← hoz.out, le]; rfl, ⟨_, by rw [← hoz.out, le]; exact h7.out.up (fun i q => .inl q)⟩, (Chg.of_below (seq_below bel b3)).trans (c7.widen (seq_below bel b3))⟩
    · go_upto_region 4 with fail
      clear q0 q1 q2 q3 q4
      have cC := closes_any (HM.out _ bi) (fun i q => Nat.lt_of_lt_of_le (hL.out i q) (Nat.le_trans bel.size bi.size)) iv.out hN hn hk.out aE hH aY
      rw [ho.out] at cC
      obtain ⟨oC, hoC⟩ : ∃ oC, clO X k aE aH aY = oC := ⟨_, rfl⟩
      rw [hoC] at cC
      replace cC := hid1 cC
      have le : nxO C X k 10 cH aE aH aY = oC := by unfold nxO; rw [if_neg gw, if_pos rfl, hoC]
      replace le := hid1 le
      replace gw := hid1 gw
      replace hoC := hid1 hoC
      obtain ⟨a0, a1, a2⟩ := ans_cells (HA.out _ bi)
      go_wp2_with (go_at_call 74; with_reducible refine cC.out.mono ?_; rintro r w5 ⟨rfl, h5, c5⟩; replace h5 := hid1 h5)
      go_ret
      obtain ⟨m5, h5⟩ := h5.out
      exact ⟨by rw [← hoz.out, le.out]; rfl, ⟨m5, by rw [← hoz.out, le.out]; exact h5.up (fun i q => Lup.under (seq_below bel bi) q)⟩, (Chg.of_below (seq_below bel bi)).trans (c5.widen (seq_below bel bi))⟩
end Go.Proofs.Ytecppcakgfohbab
