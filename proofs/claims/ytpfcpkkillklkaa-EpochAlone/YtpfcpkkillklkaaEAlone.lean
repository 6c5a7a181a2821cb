/- The law of an epoch that is advanced by one alone, walked. -/
import Derived.Test.YtpfcpkkillklkaaEDone
import Derived.Test.YtpfcpkkillklkaaEStill
import Derived.Deep.RegionHeld3
import Derived.Deep.DrawnRows
namespace Go.Proofs.Ytpfcpkkillklkaa
open Go.RowKit
open Mm (IsMem MS zeroMS)

attribute [local go_sem ↓] Go.wp_at_zero Go.wp_at_succ

def tj (K : Cf) (j : Nat) : Int := (j : Int) * ((K.C : Int) + 2)
theorem tj_succ (K : Cf) (j : Nat) : tj K (j + 1) = tj K j + ((K.C : Int) + 2) := by
  unfold tj
  rw [show ((j + 1 : Nat) : Int) = (j : Int) + 1 by omega, Int.add_mul, Int.one_mul]
theorem tj_b (K : Cf) (hC : K.C ≤ 4) (j : Nat) (hj : j ≤ 9) : 0 ≤ tj K j ∧ tj K j ≤ 54 := by
  unfold tj
  exact ⟨Int.mul_nonneg (by omega) (by omega), Int.mul_le_mul (a := (j : Int)) (b := (K.C : Int) + 2) (c := 9) (d := 6) (by omega) (by omega) (by omega) (by omega)⟩

set_option linter.unusedSimpArgs false in
set_option maxRecDepth 20000 in
set_option maxHeartbeats 16000000 in
theorem alone_law (s a c d g k who n : Int) (hw : 0 ≤ who ∧ who ≤ 255) (hn : 0 ≤ n ∧ n ≤ 255) (w : World) : Calls Try.prog 4 #[.agg (cs s a c d g k), .int .u8 who, .int .u8 n] w fun e w' => e = .returned (.bool true) ∧ Below w.heap.size w w' := by
  have hq0 : 0 ≤ n % 9 ∧ n % 9 < 9 := by omega
  have cf := Fit_any s a c d g k
  have bel := alloc_below w (.cells #[.int .i64 s, .int .i64 a, .int .i64 c, .int .i64 d, .int .i64 g, .int .i64 k] 23)
  have hh := cfg_new w s a c d g k
  go_enter Try.func4, Try.ntmps4
  go_upto_region 1 with fail
  generalize w.alloc (.cells #[.int .i64 s, .int .i64 a, .int .i64 c, .int .i64 d, .int .i64 g, .int .i64 k] 23) = w1 at *
  obtain ⟨l0, l1, l2, l3, l4, l5⟩ := hh.cells
  go_upto_region 2 with (first
    | (go_at_call 8; refine (cf _).mono ?_; rintro e w2 ⟨⟨s', a', c', d', g', k', rfl, hs, ha, hc, hd, hg, hk⟩, b⟩; replace bel := seq_below bel b; replace hh := hh.below b; obtain ⟨l0, l1, l2, l3, l4, l5⟩ := hh.cells; have y0 := hh.free 0; have y1 := hh.free 1; have y2 := hh.free 2; have y3 := hh.free 3; have y4 := hh.free 4; have y5 := hh.free 5))
  have h3 := cfg_stored6 hh s' a' c' d' g' k'
  have bel3 := below_stored6 bel (Nat.le_refl w.heap.size) (.int .i64 s') (.int .i64 a') (.int .i64 c') (.int .i64 d') (.int .i64 g') (.int .i64 k')
  clear l0 l1 l2 l3 l4 l5 y0 y1 y2 y3 y4 y5 hh bel cf
  generalize ((((((w2.setCell ⟨w.heap.size, 0, none⟩ (.int .i64 s')).setCell ⟨w.heap.size, 1, none⟩ (.int .i64 a')).setCell ⟨w.heap.size, 2, none⟩ (.int .i64 c')).setCell ⟨w.heap.size, 3, none⟩ (.int .i64 d')).setCell ⟨w.heap.size, 4, none⟩ (.int .i64 g')).setCell ⟨w.heap.size, 5, none⟩ (.int .i64 k')) = w3 at *
  have hr : rightB s' a' c' d' g' k' = true := rightB_iff.2 (by omega)
  clear ha hd hg hk
  obtain ⟨K, hK, rfl, rfl, rfl, rfl, rfl, rfl⟩ := Cf.of_right hr
  have hC4 : 1 ≤ K.C ∧ K.C ≤ 4 := by omega
  have hS12 : 1 ≤ K.S ∧ K.S ≤ 12 := by omega
  clear hs hc b
  have c10 := memory_E hK
  have hlt3 := h3.lt
  have hh := h3
  have bel := bel3
  clear h3 bel3 hr
  obtain ⟨l0, l1, l2, l3, l4, l5⟩ := hh.cells
  go_upto_region 3 with (first
    | (go_at_call 9; refine (c10 _).mono ?_; rintro e w4 ⟨M, G, rfl, hm, hM, hG, hb⟩))
  have lo : Lo w w4 K M G 0 (fun _ => 0) 0 := ⟨hm, hh.below hb, seq_below bel hb, by omega, by omega⟩
  clear l0 l1 l2 l3 l4 l5 hm hM hG hb hh bel hlt3 c10
  obtain ⟨l0, l1, l2, l3, l4, l5⟩ := lo.cfg.cells
  obtain ⟨kk, hkk⟩ : ∃ j : Nat, who % (K.C : Int) = (j : Int) := Int.eq_ofNat_of_zero_le (Int.emod_nonneg _ (by omega))
  have hkC : kk < K.C := by have := Int.emod_lt_of_pos who (by omega : (0 : Int) < (K.C : Int)); omega
  have c11 := newAdv_K hK
  go_upto_region 6 with fail
  rw [hkk]
  clear hkk hw
  have tz : tj K 0 = 0 := by unfold tj; simp
  rw [← tz] at lo
  clear tz
  go_wp2
  go_loopw [9] (fun i wr => ∃ j : Nat, (j : Int) ≤ n % 9 ∧ i = .int .i64 j ∧ Lo w wr K M G j (fun _ => 0) (tj K j)) (fun i _ => 9 - (intOf i).toNat)
  case atStart => exact ⟨0, by omega, rfl, lo⟩
  case round =>
    clear lo l0 l1 l2 l3 l4 l5
    obtain ⟨j, hj, rfl, lo⟩ := hrel
    obtain ⟨l0, l1, l2, l3, l4, l5⟩ := lo.cfg.cells
    have tb := tj_b K hC4.2 j (by omega)
    by_cases hjn : (j : Int) < n % 9
    · go_upto_region 10 with (first
        | (go_at_call 11; refine (c11 _).mono ?_; rintro e w5 ⟨A, rfl, ha, hA, hb⟩))
      have hl := lo.lt
      have hne : A ≠ M ∧ A ≠ G := by have := lo.mem.lt; omega
      have hA1 : w.heap.size + 1 ≤ A := by omega
      replace lo := lo.below hb
      replace ha : AdvG w5 A K j 0 := AdvG.new ha
      clear l0 l1 l2 l3 l4 l5 hb hA hl
      obtain ⟨n1, n2⟩ := hne
      obtain ⟨l0, l1, l2, l3, l4, l5⟩ := lo.cfg.cells
      go_wp2
      go_loopw [11] (fun i wr => ∃ q : Nat, q ≤ K.C + 1 ∧ i = .int .i64 q ∧ Lo w wr K M G (epo K j q) (fun _ => 0) (tj K j + q) ∧ AdvG wr A K j q) (fun i _ => K.C + 1 - (intOf i).toNat)
      case atStart => exact ⟨0, Nat.zero_le _, rfl, by rw [show tj K j + ((0 : Nat) : Int) = tj K j by omega, show epo K j 0 = j from if_neg (by omega)]; exact lo, ha⟩
      case round =>
        clear lo ha l0 l1 l2 l3 l4 l5
        obtain ⟨q, hq, rfl, lo, ha⟩ := hrel
        obtain ⟨l0, l1, l2, l3, l4, l5⟩ := lo.cfg.cells
        have c0 := adv_go hK lo.mem ha n1 n2 (by omega) (by omega) (by omega) (fun x _ => .inl rfl)
        rw [if_neg (by omega)] at c0
        by_cases hqC : q < K.C + 1
        · rw [decide_eq_false (by omega)] at c0
          go_wp2_with (first
            | (go_at_call 14; with_reducible refine c0.mono ?_; rintro e w6 ⟨rfl, hm, ha2, ch⟩))
          go_roundw
          case rel => exact ⟨q + 1, by omega, by go_num, by rw [show tj K j + ((q + 1 : Nat) : Int) = tj K j + q + 1 by omega]; exact lo.chg ch hA1 hm, ha2⟩
          case measure => simp [intOf]; omega
        · have hqq : q = K.C + 1 := by omega
          subst hqq
          rw [decide_eq_true (by omega)] at c0
          have ts : tj K j + ((K.C + 1 : Nat) : Int) + 1 = tj K (j + 1) := by rw [tj_succ]; omega
          rw [ts, show epo K j (K.C + 1 + 1) = j + 1 from if_pos (by omega)] at c0
          have tb2 := tj_b K hC4.2 (j + 1) (by omega)
          have tm : ((j : Int) + 1) * ((K.C : Int) + 2) = tj K (j + 1) := by unfold tj; rw [show ((j + 1 : Nat) : Int) = (j : Int) + 1 by omega]
          go_upto_region 15 with fail
          clear c0
          replace lo := lo.drew
          replace ha := ha.below (Below.refl _ _).drew
          have c0 := adv_go hK lo.mem ha n1 n2 (by omega) (by omega) (by omega) (fun x _ => .inl rfl)
          rw [if_neg (by omega), decide_eq_true (by omega), ts, show epo K j (K.C + 1 + 1) = j + 1 from if_pos (by omega)] at c0
          clear l0 l1 l2 l3 l4 l5
          have hE : IntKind.u64.wrap (IntKind.u64.wrap (j : Int) + 1) = ((j + 1 : Nat) : Int) := by simp only [IntKind.wrap_u64]; omega
          have hT : IntKind.i64.wrap (IntKind.i64.wrap ((j : Int) + 1) * IntKind.i64.wrap ((K.C : Int) + 2)) = tj K (j + 1) := by
            rw [← tm] at tb2 ⊢
            rw [show IntKind.i64.wrap ((j : Int) + 1) = (j : Int) + 1 by rw [IntKind.wrap_i64]; omega, show IntKind.i64.wrap ((K.C : Int) + 2) = (K.C : Int) + 2 by rw [IntKind.wrap_i64]; omega]
            generalize ((j : Int) + 1) * ((K.C : Int) + 2) = y at *
            rw [IntKind.wrap_i64]; omega
          replace hE : Hid (IntKind.u64.wrap (IntKind.u64.wrap (j : Int) + 1) = ((j + 1 : Nat) : Int)) := hE
          replace hT : Hid (IntKind.i64.wrap (IntKind.i64.wrap ((j : Int) + 1) * IntKind.i64.wrap ((K.C : Int) + 2)) = tj K (j + 1)) := hT
          clear tm ts
          refine wp_region_any (by kernel_rfl) ?_
          change wpAny _ _ _ _ _ _ _ (World.drew _)
          refine wpAny_take (i := 0) (v := ?_) rfl (by kernel_rfl) (by kernel_rfl) (by kernel_rfl) (fun _ _ _ h => h) (Or.inl ⟨by rfl, fun w => by go_simp <;> rfl⟩) ?_
          simp only [Act.put, List.setIfInBounds_toArray, List.set_cons_zero, List.set_cons_succ]
          refine wpAny_take (i := 1) (v := ?_) rfl (by kernel_rfl) (by kernel_rfl) (by kernel_rfl) (fun _ _ _ h => h) (Or.inl ⟨by rfl, fun w => by go_simp <;> rfl⟩) ?_
          simp only [Act.put, List.setIfInBounds_toArray, List.set_cons_zero, List.set_cons_succ]
          refine wpAny_ready (rs := [2]) (by kernel_rfl) (by simp) ?_
          refine AllReady.cons rfl (fun KK hKK => ?_) AllReady.nil
          go_simp
          go_wp2_with (first
            | (go_at_call 14; with_reducible refine c0.mono ?_; rintro e w6 ⟨rfl, hm, ha2, ch⟩; replace lo := lo.chg ch hA1 hm; have z0 := ha2.done (by omega); rw [← hE.out] at z0; have l2 := lo.cfg.cells.2.2.1; have c13 := touches_E lo.mem; rw [← hT.out] at c13))
          refine wpAny_still_from 3 (by kernel_rfl) rfl (by kernel_rfl) ?_
          simp only [List.drop_succ_cons, List.drop_zero]
          repeat still_step
          still_call (c13.mono fun _ _ h => ⟨h.1, h.2.symm⟩)
          repeat still_step
          refine wpStill_nil ?_
          clear z0 c13 hE hT l2
          go_wp2
          go_roundw
          case rel => exact ⟨j + 1, by omega, by go_num, lo⟩
          case measure => simp [intOf]; omega
    · have hjq : n % 9 = (j : Int) := by omega
      have hj9 : j < 9 := by omega
      generalize tj K j = T at *
      have c16 := newPin_K hK kk hkC
      go_upto_region 17 with fail
      clear l0 l1 l2 l3 l4 l5
      replace lo := lo.drew
      have hM := lo.hM
      have hG := lo.hG
      go_region_held (fun wr => wr.cell? ⟨w.heap.size, 0, none⟩ = some (.int .i64 (K.S : Nat)) ∧ wr.cell? ⟨w.heap.size, 1, none⟩ = some (.int .i64 K.a) ∧ wr.cell? ⟨w.heap.size, 2, none⟩ = some (.int .i64 (K.C : Nat)) ∧ wr.cell? ⟨w.heap.size, 3, none⟩ = some (.int .i64 (K.D : Nat)) ∧ wr.cell? ⟨w.heap.size, 4, none⟩ = some (.int .i64 K.g) ∧ wr.cell? ⟨w.heap.size, 5, none⟩ = some (.int .i64 K.k)) (exact lo.cfg.cells) (first
        | (go_at_call 16; with_reducible refine (c16 _).mono ?_; rintro e w3 ⟨P, rfl, hp, hP, hb⟩; have hz1 := lo.mem.lt; have hy1 := lo.lt; replace lo := lo.below hb)
        | (go_at_call 11; with_reducible refine (c11 _).mono ?_; first | (rintro e w3 ⟨B, rfl, hbb, hB, hb⟩; have hz3 := ha.lt; have hz4 := hp.lt; have hz5 := lo.mem.lt; replace ha := ha.below hb; replace hp := hp.below hb; replace lo := lo.below hb) | (rintro e w3 ⟨A, rfl, ha, hA, hb⟩; have hz2 := hp.lt; have hy2 := lo.mem.lt; replace hp := hp.below hb; replace lo := lo.below hb)))
      have hne : P ≠ M ∧ P ≠ G ∧ A ≠ M ∧ A ≠ G ∧ B ≠ M ∧ B ≠ G ∧ P ≠ A ∧ P ≠ B ∧ A ≠ B := by omega
      have hbb2 : w.heap.size + 1 ≤ P ∧ w.heap.size + 1 ≤ A ∧ w.heap.size + 1 ≤ B := by omega
      obtain ⟨n1, n2, n3, n4, n5, n6, n7, n8, n9⟩ := hne
      obtain ⟨m1, m2, m3⟩ := hbb2
      replace ha : AdvG _ A K j 0 := AdvG.new ha
      replace hbb : AdvG _ B K (j + 1) 0 := AdvG.new hbb
      clear c16 c11 hz1 hy1 hz2 hy2 hz3 hz4 hz5 hP hA hB
      have q1 := pin_alone lo.mem hp n1 n2 (by omega) hkC (by omega)
      clear hp
      go_upto_region 20 with (first
        | (go_at_call 17; with_reducible refine q3.mono ?_; rintro e w6 ⟨rfl, hm4, hp4, ch⟩; replace lo := lo.chg ch m1 hm4; replace ha := ha.chg ch (by simp [Ne.symm n7, n3, n4]); replace hbb := hbb.chg ch (by simp [Ne.symm n8, n5, n6]); have z0 := hp4.cells.1)
        | (go_at_call 17; with_reducible refine q2.mono ?_; rintro e w5 ⟨rfl, q3⟩)
        | (go_at_call 17; with_reducible refine q1.mono ?_; rintro e w4 ⟨rfl, q2⟩))
      clear q1 q2 q3 ch hm4 z0 hjq
      have hv : ∀ x, x < K.C → upd (fun _ => 0) kk (2 * j + 1) x = 0 ∨ upd (fun _ => 0) kk (2 * j + 1) x = 2 * j + 1 := fun x _ => by
        unfold upd; split <;> simp
      have hv2 : ∀ x, x < kk → upd (fun _ => 0) kk (2 * j + 1) x = 0 := fun x hx => upd_other _ (by omega) _
      have hv3 : upd (fun _ => 0) kk (2 * j + 1) kk = 2 * j + 1 := upd_same _ _ _
      have hv4 : ∀ x, x < K.C → upd (upd (fun _ => 0) kk (2 * j + 1)) kk 0 x = 0 := fun x _ => by
        unfold upd; split <;> simp [*]
      generalize upd (fun _ => 0) kk (2 * j + 1) = pins at *
      obtain ⟨T1, hT1, hb1⟩ : ∃ T1 : Int, T + 3 = T1 ∧ 0 ≤ T1 ∧ T1 ≤ 60 := ⟨_, rfl, by omega, by omega⟩
      rw [hT1] at lo
      clear hT1
      obtain ⟨l0, l1, l2, l3, l4, l5⟩ := lo.cfg.cells
      go_wp2
      go_loopw [15] (fun i wr => ∃ q : Nat, q ≤ K.C + 2 ∧ i = .int .i64 q ∧ Lo w wr K M G (epo K j q) pins (T1 + q) ∧ PinAt wr P kk j 3 j ∧ AdvG wr A K j q ∧ AdvG wr B K (j + 1) 0) (fun i _ => K.C + 2 - (intOf i).toNat)
      case atStart => exact ⟨0, Nat.zero_le _, rfl, by rw [show T1 + ((0 : Nat) : Int) = T1 by omega, show epo K j 0 = j from if_neg (by omega)]; exact lo, hp4, ha, hbb⟩
      case round =>
        clear lo hp4 ha hbb l0 l1 l2 l3 l4 l5
        obtain ⟨q, hq, rfl, lo, hp, ha, hbb⟩ := hrel
        obtain ⟨l0, l1, l2, l3, l4, l5⟩ := lo.cfg.cells
        by_cases hqC : q < K.C + 2
        · have c0 := adv_go hK lo.mem ha n3 n4 (by omega) (by omega) (by omega) hv
          rw [if_neg (by omega)] at c0
          go_wp2_with (first
            | (go_at_call 14; with_reducible refine c0.mono ?_; rintro e w4 ⟨rfl, hm, ha2, ch⟩))
          go_roundw
          case rel => exact ⟨q + 1, by omega, by go_num, by rw [show (T1 + ((q + 1 : Nat) : Int)) = T1 + (q : Int) + 1 by omega]; exact lo.chg ch m2 hm, hp.chg ch (by simp [n7, n1, n2]), ha2, hbb.chg ch (by simp [Ne.symm n9, n5, n6])⟩
          case measure => simp [intOf]; omega
        · have hqq : q = K.C + 2 := by omega
          subst hqq
          rw [show epo K j (K.C + 2) = j + 1 from if_pos (by omega)] at lo
          obtain ⟨T2, hT2, hb2⟩ : ∃ T2 : Int, T1 + ((K.C + 2 : Nat) : Int) = T2 ∧ 0 ≤ T2 ∧ T2 ≤ 70 := ⟨_, rfl, by omega, by omega⟩
          rw [hT2] at lo
          clear hT2 hq hqC l0 l1 l2 l3 l4 l5
          obtain ⟨l0, l1, l2, l3, l4, l5⟩ := lo.cfg.cells
          go_wp2
          go_loopw [16] (fun i wr => ∃ q : Nat, q ≤ 40 ∧ i = .int .i64 q ∧ Lo w wr K M G (j + 1) pins (T2 + q) ∧ PinAt wr P kk j 3 j ∧ AdvG wr A K j (K.C + 2) ∧ ∃ n', n' ≤ kk + 1 ∧ AdvG wr B K (j + 1) n') (fun i _ => 40 - (intOf i).toNat)
          case atStart => exact ⟨0, Nat.zero_le _, rfl, by rw [show T2 + ((0 : Nat) : Int) = T2 by omega]; exact lo, hp, ha, 0, by omega, hbb⟩
          case round =>
            clear lo hp ha hbb l0 l1 l2 l3 l4 l5
            obtain ⟨q, hq, rfl, lo, hp, ha, n', hn', hbb⟩ := hrel
            obtain ⟨l0, l1, l2, l3, l4, l5⟩ := lo.cfg.cells
            by_cases hqC : q < 40
            · have c0 := adv_stay hK (k := kk) lo.mem hbb n5 n6 (by omega) (by omega) hkC hn' (fun x hx => .inl (hv2 x hx)) (by omega) (by omega)
              go_wp2_with (first
                | (go_at_call 14; with_reducible refine c0.mono ?_; rintro e w4 ⟨rfl, hm, ⟨n2', hn2, hb2'⟩, ch⟩))
              go_roundw
              case rel => exact ⟨_, _, _, _, _, _, _, _, _, ⟨q + 1, by omega, by go_num, by rw [show (T2 + ((q + 1 : Nat) : Int)) = T2 + (q : Int) + 1 by omega]; exact lo.chg ch m3 hm, hp.chg ch (by simp [n8, n1, n2]), ha.chg ch (by simp [n9, n3, n4]), n2', hn2, hb2'⟩, rfl⟩
              case measure => simp [intOf]; omega
            · have hqq : q = 40 := by omega
              subst hqq
              have c18 := newLeave_K hK kk hkC
              go_upto_region 30 with (first
                | (go_at_call 18; refine (c18 _).mono ?_; rintro e w5 ⟨L, rfl, hl, hL, hb⟩))
              have hl1 := lo.mem.lt
              have hl2 := ha.lt
              have hl3 := hbb.lt
              have hl4 := hp.lt
              have hll := lo.lt
              have e1 : L ≠ M ∧ L ≠ G ∧ L ≠ P ∧ L ≠ A ∧ L ≠ B ∧ w.heap.size + 1 ≤ L := by omega
              obtain ⟨e1, e2, e3, e4, e5, e6⟩ := e1
              replace lo := lo.below hb
              replace hp := hp.below hb
              replace ha := ha.below hb
              replace hbb := hbb.below hb
              clear l0 l1 l2 l3 l4 l5 hb hL hl1 hl2 hl3 hl4 hll c18
              have c0 := leaveE_0 lo.mem hl e1 e2 (by omega) hkC
              go_upto_region 32 with (first
                | (go_at_call 19; with_reducible refine c0.mono ?_; rintro e w4 ⟨rfl, hm, hl2, ch⟩))
              replace lo := lo.chg ch e6 hm
              replace hp := hp.chg ch (by simp [Ne.symm e3, n1, n2])
              replace ha := ha.chg ch (by simp [Ne.symm e4, n3, n4])
              replace hbb := hbb.chg ch (by simp [Ne.symm e5, n5, n6])
              clear c0 hl hl2 hm ch
              generalize upd pins kk 0 = pins0 at *
              obtain ⟨T3, hT3, hb3⟩ : ∃ T3 : Int, T2 + ((40 : Nat) : Int) + 1 = T3 ∧ 0 ≤ T3 ∧ T3 ≤ 120 := ⟨_, rfl, by omega, by omega⟩
              rw [hT3] at lo
              clear hT3 hq hqC
              obtain ⟨l0, l1, l2, l3, l4, l5⟩ := lo.cfg.cells
              go_wp2
              go_loopw [18, 19] (fun v i wr => ∃ q : Nat, q ≤ K.C + 2 ∧ i = .int .i64 q ∧ v = .bool (if q = 0 then false else decide (K.C + 1 ≤ n' + (q - 1))) ∧ (∃ T4 : Int, 0 ≤ T4 ∧ T4 ≤ 120 + q ∧ Lo w wr K M G (epo K (j + 1) (n' + q)) pins0 T4) ∧ PinAt wr P kk j 3 j ∧ AdvG wr A K j (K.C + 2) ∧ AdvG wr B K (j + 1) (n' + q)) (fun _ i _ => K.C + 2 - (intOf i).toNat)
              case atStart => exact ⟨0, Nat.zero_le _, rfl, rfl, ⟨T3, by omega, by omega, by rw [show epo K (j + 1) (n' + 0) = j + 1 from if_neg (by omega)]; exact lo⟩, hp, ha, hbb⟩
              case round =>
                clear lo hp ha hbb l0 l1 l2 l3 l4 l5
                obtain ⟨q, hq, rfl, rfl, ⟨T4, ht0, ht1, lo⟩, hp, ha, hbb⟩ := hrel
                obtain ⟨l0, l1, l2, l3, l4, l5⟩ := lo.cfg.cells
                by_cases hqC : q < K.C + 2
                · have c0 := adv_go hK lo.mem hbb n5 n6 (by omega) (by omega) (by omega) (fun x hx => .inl (hv4 x hx))
                  obtain ⟨b, hbv⟩ : ∃ b, decide (K.C + 1 ≤ n' + q) = b := ⟨_, rfl⟩
                  rw [hbv] at c0
                  generalize (if q = 0 then false else decide (K.C + 1 ≤ n' + (q - 1))) = b0 at *
                  go_wp2_with (first
                    | (go_at_call 14; with_reducible refine c0.mono ?_; rintro e w4 ⟨rfl, hm, hb2', ch⟩))
                  go_roundw
                  case rel => exact ⟨q + 1, by omega, by go_num, by rw [if_neg (by omega), Nat.add_sub_cancel, hbv], ⟨if K.C + 2 ≤ n' + q then T4 else T4 + 1, by split <;> omega, by split <;> omega, lo.chg ch m3 hm⟩, hp.chg ch (by simp [n8, n1, n2]), ha.chg ch (by simp [n9, n3, n4]), hb2'⟩
                  case measure => simp [intOf]; omega
                · have hqq : q = K.C + 2 := by omega
                  subst hqq
                  rw [if_neg (by omega), decide_eq_true (by omega)]
                  have za := ha.done (Nat.le_refl _)
                  have zb := hbb.done (by omega)
                  have zp := hp.cells.1
                  have hE1 : IntKind.u64.wrap ((j : Int) + 1) = ((j + 1 : Nat) : Int) := by rw [IntKind.wrap_u64]; omega
                  have hE2 : IntKind.u64.wrap ((j : Int) + 2) = ((j + 1 + 1 : Nat) : Int) := by rw [IntKind.wrap_u64]; omega
                  rw [← hE1] at za
                  rw [← hE2] at zb
                  clear hE1 hE2
                  have c10 := awake_any
                  have hs : ∀ wq, Below wr.heap.size wr wq → wq.cell? ⟨A, 0, none⟩ = some (.int .u64 (IntKind.u64.wrap ((j : Int) + 1))) ∧ wq.cell? ⟨P, 0, none⟩ = some (.int .u64 (j : Nat)) ∧ wq.cell? ⟨B, 0, none⟩ = some (.int .u64 (IntKind.u64.wrap ((j : Int) + 2))) := fun wq hb => by
                    rw [hb.cell (p := ⟨A, 0, none⟩) ha.lt, hb.cell (p := ⟨P, 0, none⟩) hp.lt, hb.cell (p := ⟨B, 0, none⟩) hbb.lt]
                    exact ⟨za, zp, zb⟩
                  have bq := (Below.refl wr.heap.size wr).drew
                  go_upto_region 37 with fail
                  clear za zb zp l0 l1 l2 l3 l4 l5
                  go_region_held (fun wr => wr.cell? ⟨A, 0, none⟩ = some (.int .u64 (IntKind.u64.wrap ((j : Int) + 1))) ∧ wr.cell? ⟨P, 0, none⟩ = some (.int .u64 (j : Nat)) ∧ wr.cell? ⟨B, 0, none⟩ = some (.int .u64 (IntKind.u64.wrap ((j : Int) + 2)))) (exact hs _ bq) (first
                    | (go_at_call 10; with_reducible refine (c10 _).mono ?_; rintro e w6 ⟨rfl, hb⟩; replace bq := bq.trans (hb.mono bq.size)))
                  go_wp2
                  go_ret
                  exact ⟨rfl, (lo.below bq).bel⟩
end Go.Proofs.Ytpfcpkkillklkaa
