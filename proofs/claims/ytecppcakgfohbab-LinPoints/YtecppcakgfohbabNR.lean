/- Open, Close. -/
import Derived.Test.YtecppcakgfohbabNQ
import Derived.Test.YtecppcakgfohbabNI
namespace Go.Proofs.Ytecppcakgfohbab
open Go.RowKit
set_option linter.unusedSimpArgs false
set_option linter.unusedVariables false

set_option maxRecDepth 100000 in
set_option maxHeartbeats 8000000 in
theorem closes_any {w : World} {B : Nat} {L : Nat → Prop} {C : Cg} {n : Nat} {X : Sx} {m : Md} (h : MdOk w B L C n X m) (hL : ∀ i, L i → i < w.heap.size) {N : Nat} (iv : X.Inv N) (hN : N < 1000000) (hn : n < 1000000) {k : Nat} (hk : k < C.c) (aE : Int) {aH : Nat} (hH : aH < 18446744073709551616) (aY : Bool) :
    Calls Try.prog 74 #[.pointer (some ⟨m.Bc, 3 * k, none⟩), .agg #[.int .i64 aE, .int .u64 (aH : Nat), .bool aY]] w fun r w' => r = .returned (.bool (clO X k aE aH aY).isSome) ∧ (∃ m', MdOk w' B (Lup L w w') C (n + 2) ((clO X k aE aH aY).getD X) m') ∧ Chg L w w' := by
  have hnc := hid1 h.nc
  obtain ⟨oz, hoz⟩ : ∃ oz, clO X k aE aH aY = oz := ⟨_, rfl⟩
  rw [hoz]
  replace hoz := hid1 hoz
  have ha := new_obj w (.cells #[.int .i64 aE, .int .u64 (aH : Nat), .bool aY] 39)
  have bel := alloc_below w (.cells #[.int .i64 aE, .int .u64 (aH : Nat), .bool aY] 39)
  replace h := h.below bel
  have HM := hid1 (fun (w' : World) (b : Below (w.alloc (.cells #[.int .i64 aE, .int .u64 (aH : Nat), .bool aY] 39)).heap.size (w.alloc (.cells #[.int .i64 aE, .int .u64 (aH : Nat), .bool aY] 39)) w') => h.below b)
  have HK := hid1 (fun (w' : World) (b : Below (w.alloc (.cells #[.int .i64 aE, .int .u64 (aH : Nat), .bool aY] 39)).heap.size (w.alloc (.cells #[.int .i64 aE, .int .u64 (aH : Nat), .bool aY] 39)) w') => (h.below b).cq hk)
  have hp := hid1 (nodeF_lt iv.ok (k : Int))
  obtain ⟨o, ho⟩ : ∃ o, 3 * k = o := ⟨_, rfl⟩
  rw [ho] at HK ⊢
  replace ho := hid1 ho
  replace hk := hid1 hk
  replace hL := hid1 hL
  replace iv := hid1 iv
  clear h
  go_enter Try.func74, Try.ntmps74
  go_upto_region 1 with fail
  generalize World.alloc _ _ = w1 at *
  generalize hbc : w.heap.size = bq at ha ⊢
  replace hbc := hid1 hbc
  obtain ⟨ba, hba⟩ : ∃ ba, bq = ba := ⟨_, rfl⟩
  rw [hba] at ha ⊢
  replace hba := hid1 hba
  have HA := hid1 (fun (w' : World) (b : Below w1.heap.size w1 w') => (b.block _ (lt_of_block ha)).trans ha)
  have bi := Below.refl w1.heap.size w1
  obtain ⟨a0, a1, a2⟩ := ans_cells (HA.out _ bi)
  by_cases gE : aE = 0
  · have f1 : (aE == 0) = true := by simp [gE]
    by_cases gH : aH = 0
    · have f2 : ((aH : Int) == 0) = true := by simp [gH]
      cases aY with
      | true =>
        have sA : sameA aE aH true 0 0 false = false := by unfold sameA; simp
        replace gE := hid1 gE
        replace gH := hid1 gH
        have le : clO X k aE aH true = none := by unfold clO; rw [sA]; rfl
        go_wp2
        go_ret
        exact ⟨by rw [← hoz.out, le]; rfl, ⟨m, by rw [← hoz.out, le]; exact ((HM.out _ bi).up (fun i q => .inl q)).more (by omega)⟩, Chg.of_below (seq_below bel bi)⟩
      | false =>
        have sA : sameA aE aH false 0 0 false = true := by unfold sameA; simp [gE, gH]
        replace gE := hid1 gE
        replace gH := hid1 gH
        have le : clO X k aE aH false = some { X with W := X.W.set k 0, M := X.M.set k [] } := by unfold clO; rw [if_pos sA]
        have h3 := HM.out _ bi
        have ck := HK.out _ bi
        have y1 := ck.y1
        have y2 := ck.y2
        have fz := cells_free h3.cl
        have f1' := fz (o + 1)
        have f2' := fz (o + 2)
        have h4 := h3.walk hk.out 0
        rw [ho.out] at h4
        have h5 := h4.come (L' := L) (k := k) (v := .slice none 0 0) (l := []) (by have q1 := iv.out.M2; have q2 := hnc.out; have q3 := hk.out; show k < X.M.length; omega) hk.out (IsZ.nil _) (fun r hr g hg e => by cases e) (fun i q => q) (fun g e => by cases e)
        rw [ho.out] at h5
        have c5 := ((Chg.of_below (L := L) (seq_below bel bi)).setCell (b := m.Bc) (o := o + 1) (.inl h3.LB.2.1) (.int .u64 (0 : Nat))).setCell (b := m.Bc) (o := o + 2) (.inl h3.LB.2.1) (.slice none 0 0)
        obtain ⟨adC, cpC, hcC, _⟩ := ck.z.form
        rw [hcC] at y2
        clear fz ck h4 h3
        replace h5 := hid1 h5
        go_wp2
        go_ret
        exact ⟨by rw [← hoz.out, le]; rfl, ⟨_, by rw [← hoz.out, le]; exact (h5.out.up (fun i q => .inl q)).more (by omega)⟩, c5⟩
    · have f2 : ((aH : Int) == 0) = false := by simp; omega
      have sA : sameA aE aH aY 0 0 false = false := by unfold sameA; simp [gH]
      replace gE := hid1 gE
      replace gH := hid1 gH
      have le : clO X k aE aH aY = none := by unfold clO; rw [sA]; rfl
      go_wp2
      go_ret
      exact ⟨by rw [← hoz.out, le]; rfl, ⟨m, by rw [← hoz.out, le]; exact ((HM.out _ bi).up (fun i q => .inl q)).more (by omega)⟩, Chg.of_below (seq_below bel bi)⟩
  · have f1 : (aE == 0) = false := by simp [gE]
    have sA : sameA aE aH aY 0 0 false = false := by unfold sameA; simp [gE]
    replace gE := hid1 gE
    have le : clO X k aE aH aY = none := by unfold clO; rw [sA]; rfl
    go_wp2
    go_ret
    exact ⟨by rw [← hoz.out, le]; rfl, ⟨m, by rw [← hoz.out, le]; exact ((HM.out _ bi).up (fun i q => .inl q)).more (by omega)⟩, Chg.of_below (seq_below bel bi)⟩
set_option maxRecDepth 100000 in
set_option maxHeartbeats 8000000 in
theorem opens_any {w : World} {B : Nat} {L : Nat → Prop} {C : Cg} {n : Nat} {X : Sx} {m : Md} (h : MdOk w B L C n X m) (hL : ∀ i, L i → i < w.heap.size) {N : Nat} (iv : X.Inv N) (hN : N < 1000000) (hn : n < 1000000) {k : Nat} (hk : k < C.c) (kd cN : Int) {cH cX cY : Nat} (hcH : cH < 18446744073709551616) (hcX : cX < 18446744073709551616) (hcY : cY < 18446744073709551616) (aE : Int) {aH : Nat} (hH : aH < 18446744073709551616) (aY : Bool) :
    Calls Try.prog 58 #[.pointer (some ⟨B, 0, none⟩), .pointer (some ⟨m.Bc, 3 * k, none⟩), .agg #[.int .i64 kd, .int .i64 cN, .int .u64 (cH : Nat), .int .u64 (cX : Nat), .int .u64 (cY : Nat)], .agg #[.int .i64 aE, .int .u64 (aH : Nat), .bool aY]] w fun r w' => r = .returned (.bool (opO X k cH aE aH aY).isSome) ∧ (∃ m', MdOk w' B (Lup L w w') C (n + 2) ((opO X k cH aE aH aY).getD X) m') ∧ Chg L w w' := by
  have hnc := hid1 h.nc
  obtain ⟨oz, hoz⟩ : ∃ oz, opO X k cH aE aH aY = oz := ⟨_, rfl⟩
  rw [hoz]
  replace hoz := hid1 hoz
  have hq := new_obj w (.cells #[.int .i64 kd, .int .i64 cN, .int .u64 (cH : Nat), .int .u64 (cX : Nat), .int .u64 (cY : Nat)] 41)
  have b1 := alloc_below w (.cells #[.int .i64 kd, .int .i64 cN, .int .u64 (cH : Nat), .int .u64 (cX : Nat), .int .u64 (cY : Nat)] 41)
  have e1 : (w.alloc (.cells #[.int .i64 kd, .int .i64 cN, .int .u64 (cH : Nat), .int .u64 (cX : Nat), .int .u64 (cY : Nat)] 41)).heap.size = w.heap.size + 1 := by simp
  generalize hw1 : w.alloc (.cells #[.int .i64 kd, .int .i64 cN, .int .u64 (cH : Nat), .int .u64 (cX : Nat), .int .u64 (cY : Nat)] 41) = w0 at hq b1 e1
  have ha := new_obj w0 (.cells #[.int .i64 aE, .int .u64 (aH : Nat), .bool aY] 39)
  have b2 := alloc_below w0 (.cells #[.int .i64 aE, .int .u64 (aH : Nat), .bool aY] 39)
  replace hq := (b2.block _ (lt_of_block hq)).trans hq
  rw [e1] at ha
  have bel := seq_below b1 b2
  replace hw1 := hid1 hw1
  clear b1 b2 e1
  replace h := h.below bel
  have HM := hid1 (fun (w' : World) (b : Below (w0.alloc (.cells #[.int .i64 aE, .int .u64 (aH : Nat), .bool aY] 39)).heap.size (w0.alloc (.cells #[.int .i64 aE, .int .u64 (aH : Nat), .bool aY] 39)) w') => h.below b)
  have HK := hid1 (fun (w' : World) (b : Below (w0.alloc (.cells #[.int .i64 aE, .int .u64 (aH : Nat), .bool aY] 39)).heap.size (w0.alloc (.cells #[.int .i64 aE, .int .u64 (aH : Nat), .bool aY] 39)) w') => (h.below b).cq hk)
  have hp := hid1 (nodeF_lt iv.ok (k : Int))
  obtain ⟨o, ho⟩ : ∃ o, 3 * k = o := ⟨_, rfl⟩
  rw [ho] at HK ⊢
  replace ho := hid1 ho
  replace hk := hid1 hk
  replace hL := hid1 hL
  replace iv := hid1 iv
  clear h
  go_enter Try.func58, Try.ntmps58
  go_upto_region 1 with fail
  rw [hw1.out]
  clear hw1
  generalize World.alloc _ _ = w1 at *
  generalize hbc : w.heap.size = bq at hq ha ⊢
  replace hbc := hid1 hbc
  obtain ⟨ba, hba⟩ : ∃ ba, bq + 1 = ba := ⟨_, rfl⟩
  rw [hba] at ha ⊢
  replace hba := hid1 hba
  have HQ := hid1 (fun (w' : World) (b : Below w1.heap.size w1 w') => (b.block _ (lt_of_block hq)).trans hq)
  have HA := hid1 (fun (w' : World) (b : Below w1.heap.size w1 w') => (b.block _ (lt_of_block ha)).trans ha)
  have bi := Below.refl w1.heap.size w1
  obtain ⟨p1, hp1⟩ : ∃ p, nodeF (k : Int) cH X.H = p := ⟨_, rfl⟩
  have lk1 := hid1 (fun (w' : World) (b : Below w1.heap.size w1 w') => ((HK.out w' b).hd.look hcH))
  rw [hp1] at lk1
  by_cases g1 : 0 ≤ p1
  · rw [if_pos g1, decide_eq_true g1] at lk1
    refine region_below (by kernel_rfl) (by kernel_rfl) ?_
    repeat (first | go_big_quiet_skip | (go_big_quiet_want; go_big_quiet_op; first | go_big_quiet_on | (refine ⟨_, fun _ _ => rfl, ?_⟩; go_big_quiet_on) | (refine ⟨.map (some (m.bk k)), ?_, ?_⟩; (focus (intro w' hw'; have ck := HK.out w' (seq_below bi hw'); have y0 := ck.y0; have y1 := ck.y1; have y2 := ck.y2; simp [y0, Result.andThen]; done)); go_big_quiet_on) | (refine ⟨.int .u64 (cH : Nat), ?_, ?_⟩; (focus (intro w' hw'; obtain ⟨q0, q1, q2, q3, q4⟩ := call_cells (HQ.out w' (seq_below bi hw')); simp [q2, Result.andThen]; done)); go_big_quiet_on) | (refine ⟨.tuple #[.int .i64 p1, .bool true], ?_, ?_⟩; (focus (intro w' hw'; have lk := lk1.out w' (seq_below bi hw'); first | (simp [lk, Result.andThen]; done) | exact lk; done)); go_big_quiet_on)))
    refine wpQuiet_nil ?_
    intro w8 hb8
    replace bi := seq_below bi hb8
    clear hb8
    go_upto_region 4 with fail
    have ck := HK.out _ bi
    have y0 := ck.y0
    have y1 := ck.y1
    have y2 := ck.y2
    clear ck
    by_cases gw : wkF X k = 0
    · have f0 : ((wkF X k : Nat) : Int) = 0 := by omega
      have fw : (((wkF X k : Nat) : Int) != 0) = false := by simp [gw]
      replace gw := hid1 gw
      replace f0 := hid1 f0
      go_upto_region 6 with fail
      clear y0 y1 y2
      have nba : ¬ L ba := fun q => by have := hL.out _ q; have := hbc.out; have := hba.out; omega
      have hL3 : ∀ i, L i → i < w8.heap.size := fun i q => Nat.lt_of_lt_of_le (hL.out i q) (Nat.le_trans bel.size bi.size)
      have cG := gives_any (HM.out _ bi) (by omega) aE hH aY
      obtain ⟨rG, hG⟩ : ∃ rG, gvB X aE aH aY = rG := ⟨_, rfl⟩
      obtain ⟨XG, hXG⟩ : ∃ XG, gvX X aE aH aY = XG := ⟨_, rfl⟩
      rw [hG, hXG] at cG
      replace cG := hid1 cG
      replace hXG := hid1 hXG
      obtain ⟨a0, a1, a2⟩ := ans_cells (HA.out _ bi)
      cases rG with
      | false =>
        have eG : XG = X := by rw [← hXG.out]; exact gvX_no hG
        rw [eG] at cG
        clear hXG eG
        go_upto_region 7 with (go_at_call 72; with_reducible refine cG.out.mono ?_; rintro r w2 ⟨rfl, h2, c2⟩)
        clear cG a0 a1 a2
        have le : opO X k cH aE aH aY = none := by unfold opO; rw [hp1, if_neg (by omega), if_neg (by intro z; exact z gw.out), hG, if_neg (by decide)]
        go_wp2
        go_ret
        exact ⟨by rw [← hoz.out, le]; rfl, ⟨m, by rw [← hoz.out, le]; exact (h2.up (fun i q => .inl q)).more (by omega)⟩, (Chg.of_below (seq_below bel bi)).trans (c2.widen (seq_below bel bi))⟩
      | true =>
        have eG : XG = { X with G := X.G ++ [aH] } := by rw [← hXG.out]; exact gvX_yes hG
        rw [eG] at cG
        clear hXG eG
        go_upto_region 8 with (go_at_call 72; with_reducible refine cG.out.mono ?_; rintro r w2 ⟨rfl, h2, c2⟩)
        clear cG a0 a1 a2
        have le : opO X k cH aE aH aY = some (opS X k aH (reachF X p1)) := by unfold opO; rw [hp1, if_neg (by omega), if_neg (by intro z; exact z gw.out), hG, if_pos rfl]
        have ha2 := (c2.block ba (lt_of_block (HA.out _ bi)) nba).trans (HA.out _ bi)
        obtain ⟨a0, a1, a2⟩ := ans_cells ha2
        have ck2 := h2.cq hk.out
        rw [ho.out] at ck2
        have y1 := ck2.y1
        have f1 := cells_free h2.cl (o + 1)
        have h3 := h2.walk hk.out aH
        rw [ho.out] at h3
        have c3 := c2.setCell (b := m.Bc) (o := o + 1) (.inl h2.LB.2.1) (.int .u64 (aH : Nat))
        have lw : w.heap.size ≤ w8.heap.size := Nat.le_trans bel.size bi.size
        clear ck2
        replace h2 := hid1 h2
        go_upto_region 9 with fail
        clear a0 a1 a2 y1 f1
        generalize World.setCell _ _ _ = w3 at *
        have cR := reached_any (X := { X with G := X.G ++ [aH], W := X.W.set k aH }) h3 (N := N) ⟨iv.out.fl.field, iv.out.fl.nF, iv.out.fl.row⟩ hN (p := p1) ⟨g1, by have := (hp.out cH).2; rw [hp1] at this; exact this⟩
        rw [show reachF { X with G := X.G ++ [aH], W := X.W.set k aH } p1 = reachF X p1 from rfl] at cR
        replace cR := hid1 cR
        obtain ⟨lR, hlR⟩ : ∃ l, reachF X p1 = l := ⟨_, rfl⟩
        rw [hlR] at cR le
        replace hlR := hid1 hlR
        replace le := hid1 le
        have y2 := (h3.cq hk.out).y2
        rw [ho.out] at y2
        replace y2 := hid1 y2
        go_wp2_with (go_at_call 73; with_reducible refine cR.out.mono ?_; rintro r w5 ⟨u, rfl, hzu, hou, b5⟩; have h5 := h3.below b5; have yy2 := (h5.cq hk.out).y2; rw [ho.out] at yy2; have f2 := cells_free h5.cl (o + 2); obtain ⟨adC, cpC, hcC, _⟩ := (h5.cq hk.out).z.form; rw [hcC] at yy2; obtain ⟨adU, cpU, hcU, _⟩ := hzu.form; generalize lR.length = lU at hcU; subst hcU)
        go_ret
        have h6 := h5.come (L' := Lup L w (w5.setCell ⟨m.Bc, o + 2, none⟩ (.slice adU lU cpU))) (k := k) (l := lR) (by have q1 := iv.out.M2; have q2 := hnc.out; have q3 := hk.out; show k < X.M.length; omega) hk.out hzu
          (fun r hr g hg e => by have := hou g e; have := hL.out g (h5.LR r hr g hg); have := c3.size; omega) (fun i q => .inl q)
          (fun g e => .inr ⟨by have := hou g e; have := c3.size; omega, by have := hzu.lt e; simpa [World.setCell] using this⟩)
        rw [ho.out] at h6
        exact ⟨by rw [← hoz.out, le.out]; rfl, ⟨_, by rw [← hoz.out, le.out]; exact h6.more (by omega)⟩, (Chg.of_below (seq_below bel bi)).trans (((c3.then_below b5).setCell (b := m.Bc) (.inl h5.LB.2.1) _).widen (seq_below bel bi))⟩
    · have fw : (((wkF X k : Nat) : Int) != 0) = true := by simp; omega
      go_upto_region 5 with fail
      clear y0 y1 y2
      have le : opO X k cH aE aH aY = refO X (sameA aE aH aY 7 0 false) := by unfold opO; rw [hp1, if_neg (by omega), if_pos gw]
      replace gw := hid1 gw
      refine region_below (by kernel_rfl) (by kernel_rfl) ?_
      repeat (first | go_big_quiet_skip | (go_big_quiet_want; go_big_quiet_op; first | go_big_quiet_on | (refine ⟨_, fun _ _ => rfl, ?_⟩; go_big_quiet_on) | (refine ⟨.agg #[.int .i64 aE, .int .u64 (aH : Nat), .bool aY], ?_, ?_⟩; (focus (intro w' hw'; obtain ⟨a0, a1, a2⟩ := ans_cells (HA.out w' (seq_below bi hw')); simp [a0, a1, a2, Result.andThen]; done)); go_big_quiet_on) | (with_reducible refine ⟨_, (fun w' hw' => (refusal_any 7 w').mono fun _ _ ⟨he, hb⟩ => ⟨he, seq_below hw' hb⟩), ?_⟩; go_big_quiet_on) | (refine ⟨.bool (sameA aE aH aY 7 0 false), ?_, ?_⟩; (focus (intro w' hw'; unfold sameA; by_cases g1 : aE = 7 <;> by_cases g2 : aH = 0 <;> cases aY <;> simp [g1, g2, Result.andThen]; done)); go_big_quiet_on)))
      refine wpQuiet_nil ?_
      intro w8 hb8
      replace bi := seq_below bi hb8
      clear hb8
      go_wp2
      go_ret
      exact ⟨by rw [← hoz.out, le, refO_some]; rfl, ⟨m, by rw [← hoz.out, le, refO_get]; exact ((HM.out _ bi).up (fun i q => .inl q)).more (by omega)⟩, Chg.of_below (seq_below bel bi)⟩
  · rw [if_neg g1, decide_eq_false g1] at lk1
    refine region_below (by kernel_rfl) (by kernel_rfl) ?_
    repeat (first | go_big_quiet_skip | (go_big_quiet_want; go_big_quiet_op; first | go_big_quiet_on | (refine ⟨_, fun _ _ => rfl, ?_⟩; go_big_quiet_on) | (refine ⟨.map (some (m.bk k)), ?_, ?_⟩; (focus (intro w' hw'; have ck := HK.out w' (seq_below bi hw'); have y0 := ck.y0; have y1 := ck.y1; have y2 := ck.y2; simp [y0, Result.andThen]; done)); go_big_quiet_on) | (refine ⟨.int .u64 (cH : Nat), ?_, ?_⟩; (focus (intro w' hw'; obtain ⟨q0, q1, q2, q3, q4⟩ := call_cells (HQ.out w' (seq_below bi hw')); simp [q2, Result.andThen]; done)); go_big_quiet_on) | (refine ⟨.tuple #[.int .i64 0, .bool false], ?_, ?_⟩; (focus (intro w' hw'; have lk := lk1.out w' (seq_below bi hw'); first | (simp [lk, Result.andThen]; done) | exact lk; done)); go_big_quiet_on)))
    refine wpQuiet_nil ?_
    intro w8 hb8
    replace bi := seq_below bi hb8
    clear hb8
    have le : opO X k cH aE aH aY = refO X (sameA aE aH aY 2 0 false) := by unfold opO; rw [hp1, if_pos (by omega)]
    go_upto_region 3 with fail
    refine region_below (by kernel_rfl) (by kernel_rfl) ?_
    repeat (first | go_big_quiet_skip | (go_big_quiet_want; go_big_quiet_op; first | go_big_quiet_on | (refine ⟨_, fun _ _ => rfl, ?_⟩; go_big_quiet_on) | (refine ⟨.agg #[.int .i64 aE, .int .u64 (aH : Nat), .bool aY], ?_, ?_⟩; (focus (intro w' hw'; obtain ⟨a0, a1, a2⟩ := ans_cells (HA.out w' (seq_below bi hw')); simp [a0, a1, a2, Result.andThen]; done)); go_big_quiet_on) | (with_reducible refine ⟨_, (fun w' hw' => (refusal_any 2 w').mono fun _ _ ⟨he, hb⟩ => ⟨he, seq_below hw' hb⟩), ?_⟩; go_big_quiet_on) | (refine ⟨.bool (sameA aE aH aY 2 0 false), ?_, ?_⟩; (focus (intro w' hw'; unfold sameA; by_cases g1 : aE = 2 <;> by_cases g2 : aH = 0 <;> cases aY <;> simp [g1, g2, Result.andThen]; done)); go_big_quiet_on)))
    refine wpQuiet_nil ?_
    intro w8 hb8
    replace bi := seq_below bi hb8
    clear hb8
    go_wp2
    go_ret
    exact ⟨by rw [← hoz.out, le, refO_some]; rfl, ⟨m, by rw [← hoz.out, le, refO_get]; exact ((HM.out _ bi).up (fun i q => .inl q)).more (by omega)⟩, Chg.of_below (seq_below bel bi)⟩
end Go.Proofs.Ytecppcakgfohbab
