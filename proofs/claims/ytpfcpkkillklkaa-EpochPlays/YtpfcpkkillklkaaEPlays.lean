/- The law of whoever pins itself, stays and leaves, walked. -/
import Derived.Test.YtpfcpkkillklkaaEPlays0
import Derived.Deep.CutBlock
import Derived.Deep.DeepCutAuto
namespace Go.Proofs.Ytpfcpkkillklkaa
open Go.RowKit
open Mm (IsMem MS zeroMS)
set_option linter.unusedVariables false

/-- How the Advance is. -/
def AdS (wr : World) (K : Cf) (A ep : Nat) (gs : Nat → Gu) : Prop := ∃ aE apc ax awh, AdvAt wr A K aE apc ax awh ∧ AInv K ep gs apc ax awh
theorem AdS.below {w w' : World} {K : Cf} {A ep : Nat} {gs : Nat → Gu} (h : AdS w K A ep gs) (b : Below w.heap.size w w') : AdS w' K A ep gs := by
  obtain ⟨aE, apc, ax, awh, h1, h2⟩ := h
  exact ⟨aE, apc, ax, awh, h1.below b, h2⟩
theorem AdS.guest {w w' : World} {K : Cf} {A ep i : Nat} {gs : Nat → Gu} {g' : Gu} {l : List Nat} (h : AdS w K A ep gs) (c : Chg l w w') (hA : A ∉ l) (hat : ∀ e, g'.at = some e → (gs i).at = some e ∨ e = ep) : AdS w' K A ep (updG gs i g') := by
  obtain ⟨aE, apc, ax, awh, h1, h2⟩ := h
  exact ⟨aE, apc, ax, awh, h1.chg c hA, h2.guest hat⟩

/-- What a guest's cells say of it. -/
theorem Gu.look {cur : Array Value} {o ep p : Nat} {g : Gu} (h : g.five cur o) (hv : g.inv ep p) : (∃ e : Nat, cur[o + 2]? = some (.bool false) ∧ cur[o + 3]? = some (.int .u64 (e : Nat))) ∨ (∃ e : Nat, cur[o + 2]? = some (.bool true) ∧ cur[o + 3]? = some (.int .u64 (e : Nat)) ∧ p = 2 * e + 1 ∧ (ep = e ∨ ep = e + 1)) := by
  cases g with
  | fresh e st => exact .inl ⟨e, h.c2, h.c3⟩
  | pinning P E pc x e st => exact .inl ⟨e, h.c2, h.c3⟩
  | inn e st => exact .inr ⟨e, h.c2, h.c3, hv.1, hv.2.1⟩
  | leaving Q e st => exact .inr ⟨e, h.c2, h.c3, hv.1, hv.2⟩

set_option maxRecDepth 20000 in
set_option maxHeartbeats 32000000 in
theorem plays_law (s a c d g k : Int) (sad pad : Option Addr) (scap pcap : Nat) (Z : List Nat) (Y : List Int) (w : World) (hZ : CameP isY w sad Z) (hY : CameP isZ w pad Y) (hZm : Z.length ≤ maxLen) (hYm : Y.length ≤ maxLen) :
    Calls Try.prog 3 #[.agg (cs s a c d g k), .slice sad Z.length scap, .slice pad Y.length pcap] w fun e w' => e = .returned (.bool true) ∧ Below w.heap.size w w' := by
  obtain ⟨i0, hi0, hz0, hz1, hz2⟩ := info_parts Try.info37
  have cwk := awake_any
  unfold maxLen at hYm hZm
  have hYc : ∀ i, i < Y.length → ∃ b off, pad = some ⟨b, off, none⟩ ∧ b < w.heap.size ∧ w.cell? ⟨b, off + i, none⟩ = some (.int .i64 (Y.getD i 0)) := fun i hi => by
    obtain ⟨b, off, v, e, hb, hc, hv⟩ := hY i hi
    refine ⟨b, off, e, hb, ?_⟩
    rw [hc, show v = .int .i64 Y[i] from hv]
    simp [hi]
  have hZc : ∀ i, i < Z.length → ∃ b off, sad = some ⟨b, off, none⟩ ∧ b < w.heap.size ∧ w.cell? ⟨b, off + i, none⟩ = some (.int .u8 ((Z.getD i 0 : Nat) : Int)) ∧ Z.getD i 0 < 256 := fun i hi => by
    obtain ⟨b, off, v, e, hb, hc, hv, hv2⟩ := hZ i hi
    refine ⟨b, off, e, hb, ?_, ?_⟩
    · rw [hc, show v = .int .u8 (Z[i] : Nat) from hv]
      simp [hi]
    · simpa [hi] using hv2
  clear hY hZ
  generalize Z.length = nz at *
  generalize Y.length = np at *
  have cf := Fit_any s a c d g k
  have bel := alloc_below w (.cells #[.int .i64 s, .int .i64 a, .int .i64 c, .int .i64 d, .int .i64 g, .int .i64 k] 23)
  have hh := cfg_new w s a c d g k
  go_enter Try.func3, Try.ntmps3
  go_upto_region 1 with fail
  generalize w.alloc (.cells #[.int .i64 s, .int .i64 a, .int .i64 c, .int .i64 d, .int .i64 g, .int .i64 k] 23) = w1 at *
  obtain ⟨l0, l1, l2, l3, l4, l5⟩ := hh.cells
  go_upto_region 2 with (first
    | (go_at_call 8; refine (cf _).mono ?_; rintro e w2 ⟨⟨s', a', c', d', g', k', rfl, hs, ha, hc, hd, hg, hk⟩, b⟩; replace bel := seq_below bel b; replace hh := hh.below b; obtain ⟨l0, l1, l2, l3, l4, l5⟩ := hh.cells; have y0 := hh.free 0; have y1 := hh.free 1; have y2 := hh.free 2; have y3 := hh.free 3; have y4 := hh.free 4; have y5 := hh.free 5))
  have h3 := cfg_stored6 hh s' a' c' d' g' k'
  have bel3 := below_stored6 bel (Nat.le_refl w.heap.size) (.int .i64 s') (.int .i64 a') (.int .i64 c') (.int .i64 d') (.int .i64 g') (.int .i64 k')
  clear l0 l1 l2 l3 l4 l5 y0 y1 y2 y3 y4 y5 hh bel cf
  generalize ((((((w2.setCell ⟨w.heap.size, 0, none⟩ (.int .i64 s')).setCell ⟨w.heap.size, 1, none⟩ (.int .i64 a')).setCell ⟨w.heap.size, 2, none⟩ (.int .i64 c')).setCell ⟨w.heap.size, 3, none⟩ (.int .i64 d')).setCell ⟨w.heap.size, 4, none⟩ (.int .i64 g')).setCell ⟨w.heap.size, 5, none⟩ (.int .i64 k')) = w3 at *
  have hr : rightB s' a' c' d' g' k' = true := rightB_iff.2 (by omega)
  clear ha hd hg hk
  obtain ⟨K, hK, rfl, rfl, rfl, rfl, rfl, rfl⟩ := Cf.of_right hr
  have hC4 : 1 ≤ K.C ∧ K.C ≤ 4 := by omega
  have hS12 : 1 ≤ K.S ∧ K.S ≤ 12 := by omega
  clear hs hc b
  have c10 := memory_E hK
  have hlt3 := h3.lt
  have hh := h3
  have bel := bel3
  clear h3 bel3 hr
  obtain ⟨l0, l1, l2, l3, l4, l5⟩ := hh.cells
  go_upto_region 3 with (first
    | (go_at_call 9; refine (c10 _).mono ?_; rintro e w4 ⟨M, G, rfl, hm, hM, hG, hb⟩))
  have lo : Lo w w4 K M G 0 (fun _ => 0) 0 := ⟨hm, hh.below hb, seq_below bel hb, by omega, by omega⟩
  clear l0 l1 l2 l3 l4 l5 hm hM hG hb hh bel hlt3 c10
  obtain ⟨l0, l1, l2, l3, l4, l5⟩ := lo.cfg.cells
  go_upto_region 5 with (go_at_call 10; refine (cwk _).mono ?_; rintro e w5 ⟨rfl, hb⟩; replace lo := lo.below hb; clear l0 l1 l2 l3 l4 l5 hb; obtain ⟨l0, l1, l2, l3, l4, l5⟩ := lo.cfg.cells)
  have hhl := lo.cfg.lt
  have hml := lo.mem.lt
  have hM := lo.hM
  have hG := lo.hG
  go_upto_region 6 with (at_make; refine wpList_make_full _ rfl _ _ 30 rfl w5.heap.size 37 i0 (.agg #[.pointer none, .pointer none, .bool false, .int .u64 0, .int .i64 0]) 5 Try.underlying30 hi0 hz0 hz1 .i64 .i64 K.C K.C K.C rfl rfl rfl rfl ?c1 ?c2 (Nat.le_refl _) ?_)
  case c1 => rw [hz2]; omega
  case c2 => unfold maxLen; omega
  intro w6 hown hgrow
  have hrow := made_row (L := w5.heap.size) (n := K.C) (by exact hown)
  have hb6 := Mm.of_grown hgrow
  replace lo := lo.below hb6
  have hLe : w.heap.size + 1 ≤ w5.heap.size ∧ w5.heap.size ≠ M ∧ w5.heap.size ≠ G := by omega
  generalize w5.heap.size = L at *
  clear l0 l1 l2 l3 l4 l5 hown hgrow hb6 hhl hml hi0 hz0 hz1 hz2
  obtain ⟨l0, l1, l2, l3, l4, l5⟩ := lo.cfg.cells
  have hml := lo.mem.lt
  have hrl := hrow.lt
  have c11 := newAdv_K hK
  go_upto_region 7 with (go_at_call 11; refine (c11 _).mono ?_; rintro e w7 ⟨A0, rfl, ha, hA, hb⟩)
  have wd : Wd w w7 K M G L A0 0 (fun _ => 0) 0 (cur0 K.C) (fun _ => .fresh 0 0) := wd_new (lo.mem.below hb) (hrow.below hb) (lo.cfg.below hb) (lo.below hb).bel hM hG hLe (by omega) ha.lt
  have had : AdS w7 K A0 0 (fun _ => .fresh 0 0) := ⟨_, _, _, _, ha, .inl rfl⟩
  clear l0 l1 l2 l3 l4 l5 hml hrl ha hA hb lo hrow
  go_wp2
  go_loopw [9, 10, 11] (fun va vl i wr => ∃ (p A ep : Nat) (pins : Nat → Nat) (T : Int) (cur : Array Value) (gs : Nat → Gu), p ≤ np ∧ p ≤ 500 ∧ i = .int .i64 p ∧ va = .pointer (some ⟨A, 0, none⟩) ∧ vl = .int .u64 (ep : Nat) ∧ ep ≤ p ∧ 0 ≤ T ∧ T ≤ p ∧ Wd w wr K M G L A ep pins T cur gs ∧ AdS wr K A ep gs) (fun _ _ i _ => 500 - (intOf i).toNat)
  case atStart => exact ⟨0, A0, 0, _, 0, _, _, Nat.zero_le _, by omega, rfl, rfl, rfl, Nat.le_refl _, Int.le_refl _, Int.le_refl _, wd, had⟩
  case round =>
    clear wd had
    obtain ⟨p, A, ep, pins, T, cur, gs, hp, hp5, rfl, rfl, rfl, hep, hT0, hT1, wd, had⟩ := hrel
    obtain ⟨l0, l1, l2, l3, l4, l5⟩ := wd.cfg.cells
    by_cases hpn : p < np
    · by_cases hp500 : p < 500
      · obtain ⟨b, off, rfl, hbl, q⟩ := hYc p hpn
        replace q := (wd.bel.cell (p := ⟨b, off + p, none⟩) hbl).trans q
        clear hYc
        generalize Y.getD p 0 = x at *
        have hN := hK.N_b
        have hN4 := K.N_ge
        go_upto_block 2 with fail
        go_cut [9] (fun s9 wx => ∃ (A ep' : Nat) (pins : Nat → Nat) (T : Int) (cur : Array Value) (gs : Nat → Gu), s9 = .pointer (some ⟨A, 0, none⟩) ∧ (ep' = ep ∨ ep' = ep + 1) ∧ 0 ≤ T ∧ T ≤ p + 1 ∧ Wd w wx K M G L A ep' pins T cur gs ∧ AdS wx K A ep' gs)
        case first =>
          by_cases hx0 : 0 ≤ x
          · by_cases hxC : x < (K.C : Int)
            · obtain ⟨i, rfl⟩ : ∃ i : Nat, x = (i : Int) := ⟨x.toNat, by omega⟩
              have hiC : i < K.C := by omega
              by_cases hnz : nz = 0
              · subst hnz
                go_upto_region 16 with fail
                clear q l0 l1 l2 l3 l4 l5
                replace wd := wd.below (Below.refl _ _).drew
                replace had := had.below (Below.refl _ _).drew
                have qs := wd.guest hK hiC (by omega) (by omega) 0 (by omega)
                go_region_held (fun wr => wr.cell? ⟨w.heap.size, 0, none⟩ = some (.int .i64 (K.S : Nat)) ∧ wr.cell? ⟨w.heap.size, 1, none⟩ = some (.int .i64 K.a) ∧ wr.cell? ⟨w.heap.size, 2, none⟩ = some (.int .i64 (K.C : Nat)) ∧ wr.cell? ⟨w.heap.size, 3, none⟩ = some (.int .i64 (K.D : Nat)) ∧ wr.cell? ⟨w.heap.size, 4, none⟩ = some (.int .i64 K.g) ∧ wr.cell? ⟨w.heap.size, 5, none⟩ = some (.int .i64 K.k)) (exact wd.cfg.cells) (first
                  | (go_at_call 12; with_reducible refine qs.mono ?_; rintro e w7 ⟨rfl, pins', T', cur', g', wd', ht1, ht2, hat, lx, hcx, hAx⟩; replace had := had.guest hcx hAx hat; clear wd; have wd := wd'; clear wd'))
                clear qs hcx hat hAx; go_wp2
                go_meet
                case rel => exact ⟨_, _, _, _, _, _, rfl, .inl rfl, by omega, by omega, wd, had⟩

              · obtain ⟨r, hr⟩ : ∃ r : Nat, (p : Int) % (nz : Int) = (r : Int) := Int.eq_ofNat_of_zero_le (Int.emod_nonneg _ (by omega))
                have hrz : r < nz := by have := Int.emod_lt_of_pos (p : Int) (by omega : (0 : Int) < (nz : Int)); omega
                obtain ⟨b2, off2, rfl, hbl2, q2, hq2⟩ := hZc r hrz
                replace q2 := (wd.bel.cell (p := ⟨b2, off2 + r, none⟩) hbl2).trans q2
                clear hZc
                generalize Z.getD r 0 = y at *
                go_upto_region 16 with fail
                clear q q2 l0 l1 l2 l3 l4 l5 hr hrz
                replace wd := wd.below (Below.refl _ _).drew
                replace had := had.below (Below.refl _ _).drew
                have qs := wd.guest hK hiC (by omega) (by omega) ((y : Int) % 12) (by omega)
                go_region_held (fun wr => wr.cell? ⟨w.heap.size, 0, none⟩ = some (.int .i64 (K.S : Nat)) ∧ wr.cell? ⟨w.heap.size, 1, none⟩ = some (.int .i64 K.a) ∧ wr.cell? ⟨w.heap.size, 2, none⟩ = some (.int .i64 (K.C : Nat)) ∧ wr.cell? ⟨w.heap.size, 3, none⟩ = some (.int .i64 (K.D : Nat)) ∧ wr.cell? ⟨w.heap.size, 4, none⟩ = some (.int .i64 K.g) ∧ wr.cell? ⟨w.heap.size, 5, none⟩ = some (.int .i64 K.k)) (exact wd.cfg.cells) (first
                  | (go_at_call 12; with_reducible refine qs.mono ?_; rintro e w7 ⟨rfl, pins', T', cur', g', wd', ht1, ht2, hat, lx, hcx, hAx⟩; replace had := had.guest hcx hAx hat; clear wd; have wd := wd'; clear wd'))
                clear qs hcx hat hAx; go_wp2
                go_meet
                case rel => exact ⟨_, _, _, _, _, _, rfl, .inl rfl, by omega, by omega, wd, had⟩

            · by_cases hxe : x = (K.C : Int)
              · subst hxe
                clear hx0 hxC
                rcases wd.advs hK hC4.1 had.choose_spec.choose_spec.choose_spec.choose_spec.1 had.choose_spec.choose_spec.choose_spec.choose_spec.2 (by omega) (by omega) with cs | cs
                · have c13 := touches_E wd.mem
                  go_wp2_with (first
                    | (go_at_call 13; with_reducible refine c13.mono ?_; rintro e w6 ⟨rfl, rfl⟩)
                    | (go_at_call 14; with_reducible refine cs.mono ?_; rintro e w7 ⟨rfl, wd', had'⟩; have c14 := touches_E wd'.mem)
                    | (go_at_call 13; with_reducible refine c14.mono ?_; rintro e w6 ⟨rfl, rfl⟩))
                  clear wd had c13 c14 cs q l0 l1 l2 l3 l4 l5
                  have wd := wd'
                  have had : AdS _ K A ep gs := had'
                  clear wd' had'
                  skip
                  go_meet
                  case rel => exact ⟨_, _, _, _, _, _, rfl, .inl rfl, by omega, by omega, wd, had⟩

                · have c13 := touches_E wd.mem
                  go_wp2_with (first
                    | (go_at_call 13; with_reducible refine c13.mono ?_; rintro e w6 ⟨rfl, rfl⟩)
                    | (go_at_call 14; with_reducible refine cs.mono ?_; rintro e w7 ⟨rfl, wd', z0⟩; clear l0 l1 l2 l3 l4 l5; obtain ⟨l0, l1, l2, l3, l4, l5⟩ := wd'.cfg.cells)
                    | (go_at_call 11; with_reducible refine (c11 _).mono ?_; rintro e w8 ⟨A, rfl, ha, hA, hb⟩; have wd2 := wd'.renew hb hA ha.lt; have c14 := touches_E wd2.mem)
                    | (go_at_call 13; with_reducible refine c14.mono ?_; rintro e w6 ⟨rfl, rfl⟩))
                  clear wd had c13 c14 cs q l0 l1 l2 l3 l4 l5 z0 wd'
                  have wd := wd2
                  have had : AdS _ K A (ep + 1) gs := ⟨_, _, _, _, ha, .inl rfl⟩
                  clear wd2 ha hA hb
                  skip
                  go_meet
                  case rel => exact ⟨_, _, _, _, _, _, rfl, .inr rfl, by omega, by omega, wd, had⟩

              · have hx1 : (K.C : Int) < x := by omega
                have hne : (x == (K.C : Int)) = false := by simpa using hxe
                clear hxe hxC hx0
                have hx0 : 0 ≤ x := by omega
                go_wp2
                clear q l0 l1 l2 l3 l4 l5
                skip
                go_meet
                case rel => exact ⟨_, _, _, _, _, _, rfl, .inl rfl, by omega, by omega, wd, had⟩

          · have hx1 : x < 0 := by omega
            have hne : (x == (K.C : Int)) = false := by simp; omega
            clear hx0
            go_wp2
            clear q l0 l1 l2 l3 l4 l5
            skip
            go_meet
            case rel => exact ⟨_, _, _, _, _, _, rfl, .inl rfl, by omega, by omega, wd, had⟩
        case rest =>
          clear wd had hT0 hT1 hZc
          obtain ⟨A, ep', pins, T, cur, gs, rfl, hee, hT0, hT1, wd, had⟩ := hcut
          rcases hee with hee | hee
          · rw [hee] at wd had
            clear hee ep'
            obtain ⟨l0, l1, l2, l3, l4, l5⟩ := wd.cfg.cells
            have cw := words15 hK wd.mem
            go_upto_region 28 with (first
              | (go_at_call 15; with_reducible refine cw.mono ?_; rintro e w8 ⟨⟨R, X, rfl, hw, hXl, hX1, hX4⟩, hb⟩; replace wd := wd.below hb; replace had := had.below hb; have q1 := Mm.words_at hw 1 (by omega); rw [hX1] at q1))
            clear cw hb q1 l0 l1 l2 l3 l4 l5
            obtain ⟨l0, l1, l2, l3, l4, l5⟩ := wd.cfg.cells
            go_wp2
            go_loopw [17] (fun i wr => ∃ j : Nat, j ≤ K.C ∧ i = .int .i64 j ∧ Wd w wr K M G L A ep pins T cur gs ∧ Mm.IsWords wr R X ∧ AdS wr K A ep gs) (fun i _ => K.C - (intOf i).toNat)
            case atStart => exact ⟨0, Nat.zero_le _, rfl, wd, hw, had⟩
            case round =>
              clear wd hw had l0 l1 l2 l3 l4 l5
              obtain ⟨j, hj, rfl, wd, hw, had⟩ := hrel
              obtain ⟨l0, l1, l2, l3, l4, l5⟩ := wd.cfg.cells
              by_cases hjC : j < K.C
              · have q4 := Mm.words_at hw (4 + j) (by omega)
                rw [hX4 j hjC] at q4
                rcases Gu.look (wd.five j hjC) (wd.inv j hjC) with ⟨e, y2, y3⟩ | ⟨e, y2, y3, y4, y5⟩
                · have r2 := wd.row.cell y2
                  have r3 := wd.row.cell y3
                  clear y2 y3
                  go_upto_region 34 with fail
                  clear l0 l1 l2 l3 l4 l5
                  go_quiet (fail)
                  replace wd := wd.below (below_drewN (Below.refl _ _) nq)
                  replace had := had.below (below_drewN (Below.refl _ _) nq)
                  replace hw := words_below hw (below_drewN (Below.refl _ _) nq)
                  clear r2 r3 q4
                  go_wp2
                  go_roundw
                  case rel => exact ⟨j + 1, by omega, by go_num, wd, hw, had⟩
                  case measure => simp [intOf]; omega
                · have r2 := wd.row.cell y2
                  have r3 := wd.row.cell y3
                  rw [y4] at q4
                  clear y2 y3 y4
                  go_upto_region 34 with fail
                  clear l0 l1 l2 l3 l4 l5
                  obtain ⟨ve, hve, hv0⟩ : ∃ ve : Int, (e : Int) = ve ∧ 0 ≤ ve ∧ ve < 1000 := ⟨_, rfl, by omega, by omega⟩
                  rw [hve] at r3
                  rw [show ((2 * e + 1 : Nat) : Int) = IntKind.u64.wrap (IntKind.u64.wrap (2 * ve) + 1) by rw [IntKind.wrap_u64, IntKind.wrap_u64]; omega] at q4
                  have hd : ((ep : Int) != ve) = false ∨ ((ep : Int) != ve) = true ∧ ((ep : Int) != IntKind.u64.wrap (ve + 1)) = false := by
                    rcases y5 with y5 | y5
                    · left; simp; omega
                    · right
                      constructor
                      · simp; omega
                      · rw [IntKind.wrap_u64]; simp; omega
                  clear y5 hve e
                  obtain ⟨v4, hv4, hj4, hj5, hj6⟩ : ∃ v4 : Int, v4.toNat = 4 + j ∧ 0 ≤ v4 ∧ v4 < (K.N : Int) ∧ IntKind.i64.wrap (4 + (j : Int)) = v4 := ⟨4 + (j : Int), by omega, by omega, by omega, by rw [IntKind.wrap_i64]; omega⟩
                  rw [← hv4] at q4
                  clear hv4
                  rcases hd with hd | ⟨hd, hd2⟩
                  all_goals
                    go_quiet (fail)
                    replace wd := wd.below (below_drewN (Below.refl _ _) nq)
                    replace had := had.below (below_drewN (Below.refl _ _) nq)
                    replace hw := words_below hw (below_drewN (Below.refl _ _) nq)
                    clear r2 r3 q4
                    go_wp2
                    go_roundw
                    case rel => exact ⟨j + 1, by omega, by go_num, wd, hw, had⟩
                    case measure => simp [intOf]; omega
              · clear hw hX1 hX4 hXl
                go_wp2
                go_roundw
                case rel => exact ⟨p + 1, A, ep, pins, T, cur, gs, by omega, by omega, by go_num, rfl, rfl, by omega, by omega, by omega, wd, had⟩
                case measure => simp [intOf]; omega

          · rw [hee] at wd had
            clear hee ep'
            obtain ⟨l0, l1, l2, l3, l4, l5⟩ := wd.cfg.cells
            have cw := words15 hK wd.mem
            go_upto_region 28 with (first
              | (go_at_call 15; with_reducible refine cw.mono ?_; rintro e w8 ⟨⟨R, X, rfl, hw, hXl, hX1, hX4⟩, hb⟩; replace wd := wd.below hb; replace had := had.below hb; have q1 := Mm.words_at hw 1 (by omega); rw [hX1] at q1))
            clear cw hb q1 l0 l1 l2 l3 l4 l5
            obtain ⟨l0, l1, l2, l3, l4, l5⟩ := wd.cfg.cells
            go_wp2
            go_loopw [17] (fun i wr => ∃ j : Nat, j ≤ K.C ∧ i = .int .i64 j ∧ Wd w wr K M G L A (ep + 1) pins T cur gs ∧ Mm.IsWords wr R X ∧ AdS wr K A (ep + 1) gs) (fun i _ => K.C - (intOf i).toNat)
            case atStart => exact ⟨0, Nat.zero_le _, rfl, wd, hw, had⟩
            case round =>
              clear wd hw had l0 l1 l2 l3 l4 l5
              obtain ⟨j, hj, rfl, wd, hw, had⟩ := hrel
              obtain ⟨l0, l1, l2, l3, l4, l5⟩ := wd.cfg.cells
              by_cases hjC : j < K.C
              · have q4 := Mm.words_at hw (4 + j) (by omega)
                rw [hX4 j hjC] at q4
                rcases Gu.look (wd.five j hjC) (wd.inv j hjC) with ⟨e, y2, y3⟩ | ⟨e, y2, y3, y4, y5⟩
                · have r2 := wd.row.cell y2
                  have r3 := wd.row.cell y3
                  clear y2 y3
                  go_upto_region 34 with fail
                  clear l0 l1 l2 l3 l4 l5
                  go_quiet (fail)
                  replace wd := wd.below (below_drewN (Below.refl _ _) nq)
                  replace had := had.below (below_drewN (Below.refl _ _) nq)
                  replace hw := words_below hw (below_drewN (Below.refl _ _) nq)
                  clear r2 r3 q4
                  go_wp2
                  go_roundw
                  case rel => exact ⟨j + 1, by omega, by go_num, wd, hw, had⟩
                  case measure => simp [intOf]; omega
                · have r2 := wd.row.cell y2
                  have r3 := wd.row.cell y3
                  rw [y4] at q4
                  clear y2 y3 y4
                  go_upto_region 34 with fail
                  clear l0 l1 l2 l3 l4 l5
                  obtain ⟨ve, hve, hv0⟩ : ∃ ve : Int, (e : Int) = ve ∧ 0 ≤ ve ∧ ve < 1000 := ⟨_, rfl, by omega, by omega⟩
                  rw [hve] at r3
                  rw [show ((2 * e + 1 : Nat) : Int) = IntKind.u64.wrap (IntKind.u64.wrap (2 * ve) + 1) by rw [IntKind.wrap_u64, IntKind.wrap_u64]; omega] at q4
                  have hd : (((ep : Int) + 1) != ve) = false ∨ (((ep : Int) + 1) != ve) = true ∧ (((ep : Int) + 1) != IntKind.u64.wrap (ve + 1)) = false := by
                    rcases y5 with y5 | y5
                    · left; simp; omega
                    · right
                      constructor
                      · simp; omega
                      · rw [IntKind.wrap_u64]; simp; omega
                  clear y5 hve e
                  obtain ⟨v4, hv4, hj4, hj5, hj6⟩ : ∃ v4 : Int, v4.toNat = 4 + j ∧ 0 ≤ v4 ∧ v4 < (K.N : Int) ∧ IntKind.i64.wrap (4 + (j : Int)) = v4 := ⟨4 + (j : Int), by omega, by omega, by omega, by rw [IntKind.wrap_i64]; omega⟩
                  rw [← hv4] at q4
                  clear hv4
                  rcases hd with hd | ⟨hd, hd2⟩
                  all_goals
                    go_quiet (fail)
                    replace wd := wd.below (below_drewN (Below.refl _ _) nq)
                    replace had := had.below (below_drewN (Below.refl _ _) nq)
                    replace hw := words_below hw (below_drewN (Below.refl _ _) nq)
                    clear r2 r3 q4
                    go_wp2
                    go_roundw
                    case rel => exact ⟨j + 1, by omega, by go_num, wd, hw, had⟩
                    case measure => simp [intOf]; omega
              · clear hw hX1 hX4 hXl
                go_wp2
                go_roundw
                case rel => exact ⟨p + 1, A, (ep + 1), pins, T, cur, gs, by omega, by omega, by go_num, rfl, by go_num, by omega, by omega, by omega, wd, had⟩
                case measure => simp [intOf]; omega

      · clear hYc hZc
        go_wp2_with (go_at_call 10; refine (cwk _).mono ?_; rintro e w5 ⟨rfl, hb⟩; replace wd := wd.below hb)
        go_ret
        exact ⟨rfl, wd.bel⟩
    · clear hYc hZc
      go_wp2_with (go_at_call 10; refine (cwk _).mono ?_; rintro e w5 ⟨rfl, hb⟩; replace wd := wd.below hb)
      go_ret
      exact ⟨rfl, wd.bel⟩
end Go.Proofs.Ytpfcpkkillklkaa
