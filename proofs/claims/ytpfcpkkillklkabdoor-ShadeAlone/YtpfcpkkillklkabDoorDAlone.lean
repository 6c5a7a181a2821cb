/- One alone shades a slot: the law, walked. -/
import Derived.Test.YtpfcpkkillklkabDoorDTwice
namespace Go.Proofs.YtpfcpkkillklkabDoor
open Go.RowKit
open Mm (IsMem IsWords MS touched Only zeroMS)
open Hh (WT okW whiteH wordOf Hr blackN usedK rightH IsHd)

set_option maxHeartbeats 4000000 in
theorem alone_law (s a c d g k : Int) (hk hm : Int) (hg : Bool) (ha hn hs : Int) (slot : Int) (e : Nat) (he : e < 18446744073709551616) (w : World) (hw : WT w) :
    Calls Tryd.prog 3 #[.agg (cs s a c d g k), .agg #[.int .i64 hk, .int .i64 hm, .bool hg, .int .i64 ha, .int .i64 hn, .int .i64 hs], .int .i64 slot, .int .u64 (e : Nat)] w fun r w' => r = .returned (.bool true) ∧ Below w.heap.size w w' := by
  have cf := Fit_any s a c d g k
  have b0 := alloc_below w (.cells #[.int .i64 s, .int .i64 a, .int .i64 c, .int .i64 d, .int .i64 g, .int .i64 k] 23)
  have hh := cfg_new w s a c d g k
  have hz : (w.alloc (.cells #[.int .i64 s, .int .i64 a, .int .i64 c, .int .i64 d, .int .i64 g, .int .i64 k] 23)).heap.size = w.heap.size + 1 := by simp
  go_enter Tryd.func3, Tryd.ntmps3
  go_upto_region 1 with fail
  generalize w.alloc (.cells #[.int .i64 s, .int .i64 a, .int .i64 c, .int .i64 d, .int .i64 g, .int .i64 k] 23) = w0 at *
  have hd := Hh.hd_new w0 hk hm hg ha hn hs
  have b1 := alloc_below w0 (.cells #[.int .i64 hk, .int .i64 hm, .bool hg, .int .i64 ha, .int .i64 hn, .int .i64 hs] 25)
  have hw0 : WT (w0.alloc (.cells #[.int .i64 hk, .int .i64 hm, .bool hg, .int .i64 ha, .int .i64 hn, .int .i64 hs] 25)) := Hh.WT.new (hw.below b0) _
  replace hh := hh.below b1
  have bel := seq_below b0 b1
  rw [hz] at hd
  have hpos := hw.lt
  clear b0 b1 hz hw
  generalize w0.alloc (.cells #[.int .i64 hk, .int .i64 hm, .bool hg, .int .i64 ha, .int .i64 hn, .int .i64 hs] 25) = w1 at *
  obtain ⟨l0, l1, l2, l3, l4, l5⟩ := hh.cells
  go_upto_region 2 with (go_at_call 7; refine (cf _).mono ?_; rintro r w2 ⟨⟨s', a', c', d', g', k', rfl, hs1, ha1, hc1, hd1, hg1, hk1⟩, b⟩; replace bel := seq_below bel b; replace hh := hh.below b; replace hd := hd.below b; replace hw0 := hw0.below b; obtain ⟨l0, l1, l2, l3, l4, l5⟩ := hh.cells; have y0 := hh.free 0; have y1 := hh.free 1; have y2 := hh.free 2; have y3 := hh.free 3; have y4 := hh.free 4; have y5 := hh.free 5)
  have h3 := cfg_stored6 hh s' a' c' d' g' k'
  have bel3 := below_stored6 bel (Nat.le_refl w.heap.size) (.int .i64 s') (.int .i64 a') (.int .i64 c') (.int .i64 d') (.int .i64 g') (.int .i64 k')
  have hd3 := hd_apart (hd_apart (hd_apart (hd_apart (hd_apart (hd_apart (i := 0) hd (by omega : w.heap.size + 1 ≠ w.heap.size) (.int .i64 s')) (i := 1) (by omega : w.heap.size + 1 ≠ w.heap.size) (.int .i64 a')) (i := 2) (by omega : w.heap.size + 1 ≠ w.heap.size) (.int .i64 c')) (i := 3) (by omega : w.heap.size + 1 ≠ w.heap.size) (.int .i64 d')) (i := 4) (by omega : w.heap.size + 1 ≠ w.heap.size) (.int .i64 g')) (i := 5) (by omega : w.heap.size + 1 ≠ w.heap.size) (.int .i64 k')
  have hw3 := Hh.WT.set (o := 5) (Hh.WT.set (o := 4) (Hh.WT.set (o := 3) (Hh.WT.set (o := 2) (Hh.WT.set (o := 1) (Hh.WT.set (o := 0) hw0 hpos (.int .i64 s')) hpos (.int .i64 a')) hpos (.int .i64 c')) hpos (.int .i64 d')) hpos (.int .i64 g')) hpos (.int .i64 k')
  clear l0 l1 l2 l3 l4 l5 y0 y1 y2 y3 y4 y5 hh hd cf hw0 bel
  generalize ((((((w2.setCell ⟨w.heap.size, 0, none⟩ (.int .i64 s')).setCell ⟨w.heap.size, 1, none⟩ (.int .i64 a')).setCell ⟨w.heap.size, 2, none⟩ (.int .i64 c')).setCell ⟨w.heap.size, 3, none⟩ (.int .i64 d')).setCell ⟨w.heap.size, 4, none⟩ (.int .i64 g')).setCell ⟨w.heap.size, 5, none⟩ (.int .i64 k')) = w3 at *
  have hr : rightB s' a' c' d' g' k' = true := rightB_iff.2 (by omega)
  clear ha1 hd1 hg1 hk1
  obtain ⟨K, hK, rfl, rfl, rfl, rfl, rfl, rfl⟩ := Cf.of_right hr
  have hS12 : 1 ≤ K.S ∧ K.S ≤ 12 := by omega
  clear hs1 hc1 b hr
  obtain ⟨l0, l1, l2, l3, l4, l5⟩ := h3.cells
  have hu0 : 0 ≤ IntKind.u64.wrap slot := by rw [IntKind.wrap_u64]; omega
  have hKS : IntKind.u64.wrap (K.S : Int) = (K.S : Int) := by rw [IntKind.wrap_u64]; omega
  have hne : (K.S : Int) ≠ 0 := by omega
  obtain ⟨kx, hkx, hkS⟩ : ∃ kx : Nat, (IntKind.u64.wrap slot).tmod (K.S : Int) = (kx : Int) ∧ kx < K.S := by
    rw [Int.tmod_eq_emod_of_nonneg hu0]
    have q1 := Int.emod_nonneg (IntKind.u64.wrap slot) hne
    have q2 := Int.emod_lt_of_pos (IntKind.u64.wrap slot) (show (0 : Int) < K.S by omega)
    exact ⟨((IntKind.u64.wrap slot) % (K.S : Int)).toNat, by omega, by omega⟩
  go_upto_region 3 with fail
  clear hu0 hKS hkx
  generalize IntKind.u64.wrap slot = us at *
  obtain ⟨i0, hi, hz0, hz1, hz2⟩ := info_parts info25
  have hSz : K.S ≤ 12 := by omega
  go_upto_region 4 with (at_make; refine wpList_make_full _ rfl _ _ 29 rfl w3.heap.size 25 i0 (.agg #[.int .i64 0, .int .i64 0, .bool false, .int .i64 0, .int .i64 0, .int .i64 0]) 6 Tryd.underlying29 hi hz0 hz1 .i64 .i64 K.S K.S K.S rfl rfl rfl rfl ?c1 ?c2 (Nat.le_refl _) ?_)
  case c1 => rw [hz2]; omega
  case c2 => unfold maxLen; omega
  intro w4 hown hgrow
  have row := made_heads hown
  have hb4 := Mm.of_grown hgrow
  have hlt3 := h3.lt
  have hR3 : w.heap.size + 1 < w3.heap.size := lt_of_block hd3
  replace h3 := h3.below hb4
  replace hd3 := hd3.below hb4
  replace hw3 := hw3.below hb4
  replace bel3 := seq_below bel3 hb4
  clear hown hgrow hb4 l0 l1 l2 l3 l4 l5 hi hz0 hz1 hz2
  generalize w3.heap.size = R at *
  obtain ⟨l0, l1, l2, l3, l4, l5⟩ := h3.cells
  obtain ⟨p0, p1, p2, p3, p4, p5⟩ := hd3.cells
  have f0 := row.free (kx * 6)
  have f1 := row.free (kx * 6 + 1)
  have f2 := row.free (kx * 6 + 2)
  have f3 := row.free (kx * 6 + 3)
  have f4 := row.free (kx * 6 + 4)
  have f5 := row.free (kx * 6 + 5)
  have r0 : w4.cell? ⟨R, kx * 6, none⟩ = some (.int .i64 0) := row.cell (j := 0) hkS (by omega)
  have r1 : w4.cell? ⟨R, kx * 6 + 1, none⟩ = some (.int .i64 0) := row.cell (j := 1) hkS (by omega)
  have r2 : w4.cell? ⟨R, kx * 6 + 2, none⟩ = some (.bool false) := row.cell (j := 2) hkS (by omega)
  have r3 : w4.cell? ⟨R, kx * 6 + 3, none⟩ = some (.int .i64 0) := row.cell (j := 3) hkS (by omega)
  have r4 : w4.cell? ⟨R, kx * 6 + 4, none⟩ = some (.int .i64 0) := row.cell (j := 4) hkS (by omega)
  have r5 : w4.cell? ⟨R, kx * 6 + 5, none⟩ = some (.int .i64 0) := row.cell (j := 5) hkS (by omega)
  have row2 := row.put hkS hk hm hg ha hn hs
  go_upto_region 5 with fail
  have hRc : w.heap.size ≠ R := by omega
  have h5 := cfg_stored (R := R) (i := kx * 6 + 5) (cfg_stored (R := R) (i := kx * 6 + 4) (cfg_stored (R := R) (i := kx * 6 + 3) (cfg_stored (R := R) (i := kx * 6 + 2) (cfg_stored (R := R) (i := kx * 6 + 1) (cfg_stored (R := R) (i := kx * 6) h3 hRc (.int .i64 hk)) hRc (.int .i64 hm)) hRc (.bool hg)) hRc (.int .i64 ha)) hRc (.int .i64 hn)) hRc (.int .i64 hs)
  have hRp : 0 < R := by omega
  have hw5 := Hh.WT.set (o := kx * 6 + 5) (Hh.WT.set (o := kx * 6 + 4) (Hh.WT.set (o := kx * 6 + 3) (Hh.WT.set (o := kx * 6 + 2) (Hh.WT.set (o := kx * 6 + 1) (Hh.WT.set (o := kx * 6) hw3 hRp (.int .i64 hk)) hRp (.int .i64 hm)) hRp (.bool hg)) hRp (.int .i64 ha)) hRp (.int .i64 hn)) hRp (.int .i64 hs)
  have hRw : w.heap.size ≤ R := by omega
  have bel5 := (((((bel3.setCell (p := ⟨R, kx * 6, none⟩) hRw (.int .i64 hk)).setCell (p := ⟨R, kx * 6 + 1, none⟩) hRw (.int .i64 hm)).setCell (p := ⟨R, kx * 6 + 2, none⟩) hRw (.bool hg)).setCell (p := ⟨R, kx * 6 + 3, none⟩) hRw (.int .i64 ha)).setCell (p := ⟨R, kx * 6 + 4, none⟩) hRw (.int .i64 hn)).setCell (p := ⟨R, kx * 6 + 5, none⟩) hRw (.int .i64 hs)
  clear f0 f1 f2 f3 f4 f5 r0 r1 r2 r3 r4 r5 p0 p1 p2 p3 p4 p5 l0 l1 l2 l3 l4 l5 h3 hw3 bel3 hd3 row
  generalize (((((w4.setCell ⟨R, kx * 6, none⟩ (.int .i64 hk)).setCell ⟨R, kx * 6 + 1, none⟩ (.int .i64 hm)).setCell ⟨R, kx * 6 + 2, none⟩ (.bool hg)).setCell ⟨R, kx * 6 + 3, none⟩ (.int .i64 ha)).setCell ⟨R, kx * 6 + 4, none⟩ (.int .i64 hn)).setCell ⟨R, kx * 6 + 5, none⟩ (.int .i64 hs) = w5 at *
  have c8 := filled_any hK (cap := K.S) e he row2.rd hw5
  have hlt5 := h5.lt
  clear row2
  obtain ⟨l0, l1, l2, l3, l4, l5⟩ := h5.cells
  go_upto_region 6 with (go_at_call 8; with_reducible refine c8.mono ?_; rintro r w6 ⟨⟨M, G, X, rfl, hM, hXl, hX2, hXg, hMs, hGs⟩, hb⟩; clear hX2 hXg)
  have ds : Ds w w6 K M G X 0 := ⟨hM, h5.below hb, seq_below bel5 hb, hw5.below hb, by omega, by omega⟩
  clear hM h5 hb bel5 hw5 hMs hGs c8 hlt5 l0 l1 l2 l3 l4 l5

  have c9 := newShade_yes hK kx hkS e
  have c11 := rheader_any hK kx hkS
  obtain ⟨l0, l1, l2, l3, l4, l5⟩ := ds.cfg.cells
  go_upto_region 7 with (go_at_call 9; with_reducible refine (c9 _).mono ?_; rintro r w7 ⟨P, rfl, hp, hP, hbl⟩; have hy2 := ds.mem.lt; have hy3 := ds.lt; replace ds := ds.below hbl)
  have hne : P ≠ M ∧ P ≠ G ∧ w.heap.size + 1 ≤ P := by omega
  obtain ⟨nPM, nPG, gP⟩ := hne
  clear c9 hP hbl hy2 hy3 l0 l1 l2 l3 l4 l5
  go_upto_region 9 with (go_at_call 10; with_reducible refine (awake_any _ ds.wt).mono ?_; rintro r w8 ⟨rfl, hb⟩; replace ds := ds.below hb; replace hp := hp.below hb; clear hb)
  have hhd := K.hd_lt hkS
  have hN := hK.N_b
  have hXh : K.hd kx < X.length := by omega
  generalize hhx : K.hd kx = hx at *
  have hx4 : 4 ≤ hx := by rw [← hhx]; exact K.hd_4 kx
  clear hhx
  obtain ⟨l0, l1, l2, l3, l4, l5⟩ := ds.cfg.cells
  have hXf := ds.mem.fits hx
  go_upto_region 11 with (first
    | (go_at_call 11; with_reducible refine (c11 _).mono ?_; rintro r w9 ⟨rfl, hb⟩; replace ds := ds.below hb; replace hp := hp.below hb; clear hb; have q2 := wordsX ds.mem hXl (by omega))
    | (go_at_call 12; with_reducible refine q2.mono ?_; rintro r w10 ⟨R1, rfl, hw1, hR1, hbl⟩; have hml := ds.mem.lt; have hpl := hp.lt; replace ds := ds.below hbl; replace hp := hp.below hbl))
  clear l0 l1 l2 l3 l4 l5 q2 c11
  have hR1x : R1 ∉ [P, M, G] := by simp; omega
  have z1 := Mm.words_at hw1 hx hXh
  clear hR1 hml hpl hbl
  have c13 := fun w => lives_any hXf w
  have c14 := fun w => marked_any hXf he w
  have hcan := can_liv (X.getD hx 0) e
  generalize hWX : X.getD hx 0 = W at *
  cases hlv : livW W
  · rw [hlv] at hcan c13
    replace hcan : canS W e = false := hcan
    clear hlv
    go_wp2_with (go_at_call 13; with_reducible refine (c13 _).mono ?_; rintro r w9 ⟨rfl, hb⟩; replace ds := ds.below hb; replace hp := hp.below hb; replace hw1 := words_below hw1 hb; clear hb)
    have q1 := ds_0n ds.mem hp ds.wt nPM nPG (by omega) hXh he hWX hcan
    clear z1 c13 c14
    refine wp_loop_rounds 1 ?_
    rw [rounds_succ]
    go_wp2_with (first
      | (go_at_call 15; with_reducible refine q1.mono ?_; rintro r w9 ⟨rfl, hm, hp', hwt, ch⟩; replace ds := ds.chg ch gP hm hwt; replace hw1 := words_chg hw1 ch hR1x; have q2 := touchesX ds.mem)
      | (go_at_call 16; with_reducible refine q2.mono ?_; rintro r w10 ⟨rfl, rfl⟩; have q3 := shd_4 (M := M) hp')
      | (go_at_call 15; with_reducible refine q3.mono ?_; rintro r w10 ⟨rfl, rfl⟩; have q5 := wordsX ds.mem hXl (by omega))
      | (go_at_call 12; with_reducible refine q5.mono ?_; rintro r w12 ⟨R2, rfl, hw3, hR2, hbl2⟩; replace hw1 := words_below hw1 hbl2; replace hp' := hp'.below hbl2; have z0 := hp'.cells.1; replace ds := ds.below hbl2; have q6 := Mm.same_yes hw3 hw1 (by omega); rw [hXl] at q6)
      | (go_at_call 17; with_reducible refine q6.mono ?_; rintro r w13 ⟨rfl, m, rfl⟩))
    go_ret
    exact ⟨rfl, below_drewN ds.bel m⟩
  · rw [hlv] at hcan c13
    clear hlv
    cases hmk : mkdW W e
    · rw [hmk] at hcan c14
      replace hcan : canS W e = true := hcan
      clear hmk
      go_wp2_with (first
        | (go_at_call 13; with_reducible refine (c13 _).mono ?_; rintro r w9 ⟨rfl, hb⟩; replace ds := ds.below hb; replace hp := hp.below hb; replace hw1 := words_below hw1 hb; clear hb z1; have z1 := Mm.words_at hw1 hx hXh; rw [hWX] at z1)
        | (go_at_call 14; with_reducible refine (c14 _).mono ?_; rintro r w9 ⟨rfl, hb⟩; replace ds := ds.below hb; replace hp := hp.below hb; clear hb))
      clear c13 c14 z1 hw1 hR1x
      have f1 := (sh_facts hXf hcan).1
      have f2 := sh_marked hXf hcan
      have c14 := fun w => marked_any f1 he w
      rw [f2] at c14
      clear f2
      obtain ⟨X1, hX1⟩ : ∃ X1, X.set 2 (Mm.sumW (X.getD 2 0) 1) = X1 := ⟨_, rfl⟩
      obtain ⟨X2, hX2⟩ : ∃ X2, X1.set hx (shN W e) = X2 := ⟨_, rfl⟩
      have g1 : X1.getD hx 0 = W := by rw [← hX1, getD_set, if_neg (by omega)]; exact hWX
      have hl1 : X1.length = K.N := by rw [← hX1, List.length_set]; exact hXl
      have hl2 : X2.length = K.N := by rw [← hX2, List.length_set]; exact hl1
      have hXh1 : hx < X1.length := by omega
      have hXh2 : hx < X2.length := by omega
      have h21 : 2 < X.length := by omega
      have g2 : X2.getD hx 0 = shN W e := by rw [← hX2, getD_set, if_pos ⟨rfl, hXh1⟩]
      have q1 := ds_0y ds.mem hp ds.wt nPM nPG (by omega) hXh he hWX hcan
      generalize shN W e = W' at *
      refine wp_loop_rounds 3 ?_
      rw [rounds_succ]
      go_wp2_with (go_at_call 15; with_reducible refine q1.mono ?_; rintro r w9 ⟨rfl, hm, hp', hwt, ch⟩; replace ds := ds.chg ch gP hm hwt; have q2 := ds_1 ds.mem hp' ds.wt nPM nPG (by omega) h21 hX1)
      rw [rounds_succ]
      clear q1 hp ch hm hwt
      go_wp2_with (go_at_call 15; with_reducible refine q2.mono ?_; rintro r w9 ⟨rfl, hm, hp, hwt, ch⟩; replace ds := ds.chg ch gP hm hwt; have q3 := ds_2y ds.mem hp ds.wt nPM nPG (by omega) hXh1 g1 f1 hX2)
      rw [rounds_succ]
      clear q2 hp' ch hm hwt
      go_wp2_with (first
        | (go_at_call 15; with_reducible refine q3.mono ?_; rintro r w9 ⟨rfl, hm, hp', hwt, ch⟩; replace ds := ds.chg ch gP hm hwt; have q2 := touchesX ds.mem)
        | (go_at_call 16; with_reducible refine q2.mono ?_; rintro r w10 ⟨rfl, rfl⟩; have q4 := shd_4 (M := M) hp')
        | (go_at_call 15; with_reducible refine q4.mono ?_; rintro r w10 ⟨rfl, rfl⟩; have q6 := wordsX ds.mem hl2 (by omega))
        | (go_at_call 12; with_reducible refine q6.mono ?_; rintro r w12 ⟨R2, rfl, hw3, hR2, hbl2⟩; have z2 := Mm.words_at hw3 hx hXh2; rw [g2] at z2; replace hp' := hp'.below hbl2; have z0 := hp'.cells.1; replace ds := ds.below hbl2)
        | (go_at_call 14; with_reducible refine (c14 _).mono ?_; rintro r w13 ⟨rfl, hb⟩; replace ds := ds.below hb))
      go_ret
      exact ⟨rfl, ds.bel⟩
    · rw [hmk] at hcan c14
      replace hcan : canS W e = false := hcan
      clear hmk
      go_wp2_with (first
        | (go_at_call 13; with_reducible refine (c13 _).mono ?_; rintro r w9 ⟨rfl, hb⟩; replace ds := ds.below hb; replace hp := hp.below hb; replace hw1 := words_below hw1 hb; clear hb z1; have z1 := Mm.words_at hw1 hx hXh; rw [hWX] at z1)
        | (go_at_call 14; with_reducible refine (c14 _).mono ?_; rintro r w9 ⟨rfl, hb⟩; replace ds := ds.below hb; replace hp := hp.below hb; replace hw1 := words_below hw1 hb; clear hb))
      have q1 := ds_0n ds.mem hp ds.wt nPM nPG (by omega) hXh he hWX hcan
      clear z1 c13 c14
      refine wp_loop_rounds 1 ?_
      rw [rounds_succ]
      go_wp2_with (first
        | (go_at_call 15; with_reducible refine q1.mono ?_; rintro r w9 ⟨rfl, hm, hp', hwt, ch⟩; replace ds := ds.chg ch gP hm hwt; replace hw1 := words_chg hw1 ch hR1x; have q2 := touchesX ds.mem)
        | (go_at_call 16; with_reducible refine q2.mono ?_; rintro r w10 ⟨rfl, rfl⟩; have q3 := shd_4 (M := M) hp')
        | (go_at_call 15; with_reducible refine q3.mono ?_; rintro r w10 ⟨rfl, rfl⟩; have q5 := wordsX ds.mem hXl (by omega))
        | (go_at_call 12; with_reducible refine q5.mono ?_; rintro r w12 ⟨R2, rfl, hw3, hR2, hbl2⟩; replace hw1 := words_below hw1 hbl2; replace hp' := hp'.below hbl2; have z0 := hp'.cells.1; replace ds := ds.below hbl2; have q6 := Mm.same_yes hw3 hw1 (by omega); rw [hXl] at q6)
        | (go_at_call 17; with_reducible refine q6.mono ?_; rintro r w13 ⟨rfl, m, rfl⟩))
      go_ret
      exact ⟨rfl, below_drewN ds.bel m⟩
end Go.Proofs.YtpfcpkkillklkabDoor
