/- SweepReclaims: the walk. -/
import Derived.Test.YteechgmjaagbmabDoorRS
namespace Go.Proofs.YteechgmjaagbmabDoor
open Go.RowKit
open Mm (IsMem MS touched Only IsWords)
open Hh (WT wordOf okW Hr IsHd)

/-- What is known of the world behind a Reclaim. -/
structure Lr (w wr : World) (K : Cf) (M G P R : Nat) (X Y : List Nat) (T : Nat) (back gone : Nat) : Prop where
  mem : MemX wr M G Y (T : Int)
  wt : WT wr
  cfg : IsCfg wr w.heap.size K.S K.a K.C K.D K.g K.k
  bel : Below w.heap.size w wr
  ws : IsWords wr R X
  b : wr.cell? ⟨P, 0, none⟩ = some (.int .i64 (back : Nat))
  g : wr.cell? ⟨P, 1, none⟩ = some (.int .i64 (gone : Nat))
  p : wr.cell? ⟨P, 8, none⟩ = some (.int .i64 2)
  lt : P < wr.heap.size
theorem Lr.below {w wr w' : World} {K : Cf} {M G P R : Nat} {X Y : List Nat} {T back gone : Nat} (h : Lr w wr K M G P R X Y T back gone) (b : Below wr.heap.size wr w') : Lr w w' K M G P R X Y T back gone :=
  ⟨h.mem.below b, h.wt.below b, h.cfg.below b, seq_below h.bel b, words_below h.ws b, (b.cell (p := ⟨P, 0, none⟩) h.lt).trans h.b, (b.cell (p := ⟨P, 1, none⟩) h.lt).trans h.g, (b.cell (p := ⟨P, 8, none⟩) h.lt).trans h.p, Nat.lt_of_lt_of_le h.lt b.size⟩
theorem lr_end {w w6 w7 : World} {K : Cf} {M G P R : Nat} {X Y : List Nat} {n back gone : Nat} (h : ReI w6 K M G P X re0 0 n w7) (e1 : (reRun K X re0 n).1 = Y) (e2 : (reRun K X re0 n).2.back = back) (e3 : (reRun K X re0 n).2.gone = gone) (e4 : (reRun K X re0 n).2.pc = 2) (is : Nn w w6 K.S K.a K.C K.D K.g K.k) (hR : IsWords w6 R X) (h1 : R ≠ P ∧ R ≠ M ∧ R ≠ G) (h2 : w.heap.size < P ∧ w.heap.size < M ∧ w.heap.size < G) :
    Lr w w7 K M G P R X Y n back gone := by
  obtain ⟨c, i7, s7, _⟩ := h
  have g0 := i7.cell s7.back
  have g1 := i7.cell s7.gone
  have g8 := i7.cell s7.pc
  have hm := i7.mem
  rw [e2] at g0
  rw [e3] at g1
  rw [e4] at g8
  rw [e1, Nat.zero_add] at hm
  exact ⟨hm, i7.wt, is.cfg.chg i7.ch (by simp; omega), i7.ch.below is.bel (by simp; omega) (Nat.le_refl _), words_chg hR i7.ch (by simp; omega), g0, g1, g8, lt_of_block i7.blk⟩
/-- A row of headers. -/
structure Hq (wr : World) (K : Cf) (Q : Nat) (X : List Nat) : Prop where
  c : ∀ s, s < K.S → ∀ j, j < 6 → wr.cell? ⟨Q, s * 6 + j, none⟩ = (hvC (hvW (X.getD (K.hd s) 0)))[j]?
  lt : Q < wr.heap.size
theorem Hq.below {wr w' : World} {K : Cf} {Q : Nat} {X : List Nat} (h : Hq wr K Q X) (b : Below wr.heap.size wr w') : Hq w' K Q X := ⟨fun s hs j hj => (b.cell (p := ⟨Q, s * 6 + j, none⟩) h.lt).trans (h.c s hs j hj), Nat.lt_of_lt_of_le h.lt b.size⟩
theorem Hq.keep {w11 wr : World} {K : Cf} {Q : Nat} {X : List Nat} (h : Hq w11 K Q X) (b : Below w11.heap.size w11 wr) {s : Nat} (hs : s < K.S) {hv : Hv} (e : hvW (X.getD (K.hd s) 0) = hv) :
    wr.cell? ⟨Q, s * 6, none⟩ = some (.int .i64 hv.k) ∧ wr.cell? ⟨Q, s * 6 + 1, none⟩ = some (.int .i64 hv.m) ∧ wr.cell? ⟨Q, s * 6 + 2, none⟩ = some (.bool hv.g) ∧ wr.cell? ⟨Q, s * 6 + 3, none⟩ = some (.int .i64 hv.a) ∧ wr.cell? ⟨Q, s * 6 + 4, none⟩ = some (.int .i64 hv.n) ∧ wr.cell? ⟨Q, s * 6 + 5, none⟩ = some (.int .i64 hv.s) := by
  have q : ∀ j, j < 6 → wr.cell? ⟨Q, s * 6 + j, none⟩ = (hvC hv)[j]? := fun j hj => by rw [← e]; exact (b.cell (p := ⟨Q, s * 6 + j, none⟩) h.lt).trans (h.c s hs j hj)
  exact ⟨q 0 (by omega), q 1 (by omega), q 2 (by omega), q 3 (by omega), q 4 (by omega), q 5 (by omega)⟩
theorem rfL_len (K : Cf) (X F : List Nat) : ∀ j, (rfL K X F j).length ≤ F.length + j
  | 0 => Nat.le_refl _
  | j + 1 => by
    have := rfL_len K X F j
    unfold rfL
    split
    · show (_ :: _).length ≤ _
      simp only [List.length_cons]
      omega
    · omega
theorem heads_q {K : Cf} (hK : K.Ok) {b : Nat} {X : List Nat} (hX : X.length = K.N) (hlt : ∀ i, X.getD i 0 < 18446744073709551616) {w : World} (hr : IsWords w b X) :
    Calls Tryd.prog 22 #[.agg #[.int .i64 (K.S : Nat), .int .i64 K.a, .int .i64 (K.C : Nat), .int .i64 (K.D : Nat), .int .i64 K.g, .int .i64 K.k], .slice (some ⟨b, 0, none⟩) K.N K.N] w fun e w' => ∃ g gcap, e = .returned (.slice (some ⟨g, 0, none⟩) K.S gcap) ∧ Hq w' K g X ∧ Below w.heap.size w w' :=
  (heads_r hK hX hlt (RdW.of_words hr)).mono fun e w' ⟨g, gcap, he, hc, _, hb⟩ => ⟨g, gcap, he, ⟨hc, by
    have h := hc 0 hK.s1 0 (by omega)
    have h' : w'.cell? ⟨g, 0 * 6 + 0, none⟩ = some _ := h
    exact Hh.lt_of_cell h'⟩, hb⟩
theorem rlist_q {K : Cf} (hK : K.Ok) {b : Nat} {X F : List Nat} {tag : Nat} (hT : Top K X tag F) (hlt : ∀ i, X.getD i 0 < 18446744073709551616) {w : World} (hr : IsWords w b X) :
    Calls Tryd.prog 23 #[.agg #[.int .i64 (K.S : Nat), .int .i64 K.a, .int .i64 (K.C : Nat), .int .i64 (K.D : Nat), .int .i64 K.g, .int .i64 K.k], .slice (some ⟨b, 0, none⟩) K.N K.N] w fun e w' => ∃ ad vcap, e = .returned (.slice ad F.length vcap) ∧ IsI w' (.slice ad F.length vcap) F ∧ Below w.heap.size w w' := by
  refine (rlist_yes hK (RdW.of_words hr) hT.len hlt).mono fun e w' ⟨v, he, hI, _, hb⟩ => ?_
  rw [hT.list] at hI
  obtain ⟨ad, vc, rfl, _, _⟩ := hI.form
  exact ⟨ad, vc, he, hI, hb⟩

set_option maxRecDepth 100000 in
set_option maxHeartbeats 16000000 in
theorem reclaims_law (s a c d g k : Int) (ad : Option Addr) (len cap : Nat) (Z : Nat → Sv) (w : World) (hZ : RdV w ad len Z) (hP : len < 9223372036854775808) (hw : WT w) :
    Calls Tryd.prog 4 #[.agg #[.int .i64 s, .int .i64 a, .int .i64 c, .int .i64 d, .int .i64 g, .int .i64 k], .slice ad len cap] w fun r w' => r = .returned (.bool true) ∧ Below w.heap.size w w' := by
  have hw0' := hw
  have HZ := hid1 hZ
  clear hZ
  have cf := Fit_any s a c d g k
  have bel := alloc_below w (.cells #[.int .i64 s, .int .i64 a, .int .i64 c, .int .i64 d, .int .i64 g, .int .i64 k] 23)
  have hh := cfg_new w s a c d g k
  replace hw := hw.below bel
  have hw0 : 0 < w.heap.size := by have := hw0'.lt; omega
  unfold cs at cf
  go_enter Tryd.func4, Tryd.ntmps4
  go_upto_region 1 with fail
  generalize w.alloc (.cells #[.int .i64 s, .int .i64 a, .int .i64 c, .int .i64 d, .int .i64 g, .int .i64 k] 23) = w1 at *
  obtain ⟨l0, l1, l2, l3, l4, l5⟩ := hh.cells
  go_upto_region 2 with (first
    | (go_at_call 7; with_reducible refine (cf _).mono ?_; rintro e1 w2 ⟨⟨s', a', c', d', g', k', rfl, hs, ha, hc, hd, hg, hk⟩, b⟩; replace bel := seq_below bel b; replace hh := hh.below b; replace hw := hw.below b; clear l0 l1 l2 l3 l4 l5; obtain ⟨l0, l1, l2, l3, l4, l5⟩ := hh.cells; have y0 := hh.free 0; have y1 := hh.free 1; have y2 := hh.free 2; have y3 := hh.free 3; have y4 := hh.free 4; have y5 := hh.free 5))
  have h3 := cfg_stored6 hh s' a' c' d' g' k'
  have bel3 := below_stored6 bel (Nat.le_refl w.heap.size) (.int .i64 s') (.int .i64 a') (.int .i64 c') (.int .i64 d') (.int .i64 g') (.int .i64 k')
  have hw3 := wt_stored6 hw hw0 (.int .i64 s') (.int .i64 a') (.int .i64 c') (.int .i64 d') (.int .i64 g') (.int .i64 k')
  clear l0 l1 l2 l3 l4 l5 y0 y1 y2 y3 y4 y5 hh bel cf hw
  generalize ((((((w2.setCell ⟨w.heap.size, 0, none⟩ (.int .i64 s')).setCell ⟨w.heap.size, 1, none⟩ (.int .i64 a')).setCell ⟨w.heap.size, 2, none⟩ (.int .i64 c')).setCell ⟨w.heap.size, 3, none⟩ (.int .i64 d')).setCell ⟨w.heap.size, 4, none⟩ (.int .i64 g')).setCell ⟨w.heap.size, 5, none⟩ (.int .i64 k')) = w3 at *
  have hr : rightB s' a' c' d' g' k' = true := rightB_iff.2 (by omega)
  obtain ⟨K, hK, rfl, rfl, rfl, rfl, rfl, rfl⟩ := Cf.of_right hr
  have hS12 : K.S ≤ 12 := by omega
  have hg40 : Hid (1 ≤ K.g ∧ K.g ≤ 40) := hg
  clear hs ha hc hd hg hk b hr w1 w2
  have is : Nn w w3 K.S K.a K.C K.D K.g K.k := ⟨h3, bel3, hw3⟩
  clear h3 bel3 hw3
  obtain ⟨l0, l1, l2, l3, l4, l5⟩ := is.cfg.cells
  clear hw0'
  have hC1 := hK.c1'
  by_cases hlen : 20 < len
  · have hl1 : (20 : Int) < (len : Int) := by omega
    go_wp2_with (go_at_call 8; with_reducible refine (awake_any _ is.wt).mono ?_; rintro r w5 ⟨rfl, b⟩; replace is := is.below b)
    go_ret
    exact ⟨rfl, is.bel⟩
  · have hl1 : ¬ (20 : Int) < (len : Int) := by omega
    go_upto_region 4 with (go_at_call 8; with_reducible refine (awake_any _ is.wt).mono ?_; rintro r w5 ⟨rfl, b⟩; replace is := is.below b)
    clear l0 l1 l2 l3 l4 l5 b
    obtain ⟨l0, l1, l2, l3, l4, l5⟩ := is.cfg.cells
    have hrd := RdV.below HZ.out is.bel
    have c9 := laid_any hK (cap := cap) (rcap := 0) (vcap := 0) hrd (rdU_nil _ none (fun _ => 0)) (rdU_nil _ none (fun _ => 0)) hP (by omega) (by omega) is.wt
    have hT0 := laidX_top hK hC1 len Z 0 (fun _ => 0) 0 (fun _ => 0)
    have hF0 : ∀ t ∈ frL K.S len Z K.S, limboW ((laidX K len Z 0 (fun _ => 0) 0 (fun _ => 0)).getD (K.hd t) 0) = false := fun t ht => by rw [laidX_hd hC1 len Z 0 (fun _ => 0) 0 (fun _ => 0) (frL_mem (Nat.le_refl _) ht).2.1]; exact fr_nolimbo ht
    unfold Cf.cs at c9
    have hcw := is.cfg.lt
    generalize laidX K len Z 0 (fun _ => 0) 0 (fun _ => 0) = X at *
    generalize frL K.S len Z K.S = F at *
    clear hrd HZ
    go_upto_region 5 with (go_at_call 9; with_reducible refine c9.mono ?_; rintro r w6 ⟨R, rfl, hR, ft, hR1, b⟩; replace is := is.below b)
    clear l0 l1 l2 l3 l4 l5 b c9
    obtain ⟨n, Y, n1, n2, y1, y2, y3, y4, y5, y6, y7⟩ := rp_all hK hT0 hF0
    have c10 := of_fit hK hR ft
    go_upto_region 6 with (go_at_call 10; with_reducible refine c10.mono ?_; rintro r w7 ⟨M, G, rfl, hm, hM, hG, b⟩; have hRl := words_lt hR; replace is := is.below b; replace hR := words_below hR b; clear c10 b)
    have c11 := newReclaim_yes hK
    unfold Cf.cs at c11
    have hml := hm.lt
    obtain ⟨l0, l1, l2, l3, l4, l5⟩ := is.cfg.cells
    go_upto_region 7 with (go_at_call 21; with_reducible refine (c11 _).mono ?_; rintro r w8 ⟨P, rfl, nb⟩; replace is := is.below nb.bel; replace hR := words_below hR nb.bel; replace hm := hm.below nb.bel)
    clear l0 l1 l2 l3 l4 l5 c11
    have hPn := nb.new
    have hPM : P ≠ M ∧ P ≠ G := by omega
    have hpos : 0 < P ∧ 0 < M ∧ 0 < G := by omega
    have q12 := re_ends hK (most := 7 * K.S) (reI_new hK (T0 := 0) hm is.wt ft.len (by omega) nb.blk hPM hpos) (n := n) n1 n2 (by omega) (by omega) y7
    have HE := hid1 (fun (w9 : World) (h : ReI w8 K M G P X re0 0 n w9) => lr_end h y1 y2 y3 y4 is hR (by omega) (by omega))
    obtain ⟨l0, l1, l2, l3, l4, l5⟩ := is.cfg.cells
    rw [show ((7 * K.S : Nat) : Int) = 7 * (K.S : Int) by omega] at q12
    have e2 : IntKind.i64.wrap (7 * (K.S : Int)) = 7 * (K.S : Int) := by rw [IntKind.wrap_i64]; omega
    clear nb y1 y2 y3 y4 y7
    go_upto_region 9 with (go_at_call 12; with_reducible refine q12.mono ?_; rintro r w9 ⟨rfl, s9⟩; have lw := HE.out _ s9; clear s9)
    clear q12 HE l0 l1 l2 l3 l4 l5 hm hR is
    have hN := hK.N_b
    have hYfit := fun i => lw.mem.fits i
    have c13 := wordsX lw.mem (n := K.N) y5.len (by omega)
    go_upto_region 10 with (go_at_call 13; with_reducible refine c13.mono ?_; rintro r w10 ⟨V, rfl, hV, hV1, b⟩; replace lw := lw.below b; clear b c13)
    have c22a : ∀ wr, IsWords wr R X → _ := fun wr h => heads_q hK ft.len ft.at h
    have c22b : ∀ wr, IsWords wr V Y → _ := fun wr h => heads_q hK y5.len hYfit h
    replace lw := lw.below (Below.refl _ _).drew
    replace hV := words_below hV (Below.refl _ _).drew
    go_region_held (fun wq => wq.cell? ⟨w.heap.size, 0, none⟩ = some (.int .i64 (K.S : Nat)) ∧ wq.cell? ⟨w.heap.size, 1, none⟩ = some (.int .i64 K.a) ∧ wq.cell? ⟨w.heap.size, 2, none⟩ = some (.int .i64 (K.C : Nat)) ∧ wq.cell? ⟨w.heap.size, 3, none⟩ = some (.int .i64 (K.D : Nat)) ∧ wq.cell? ⟨w.heap.size, 4, none⟩ = some (.int .i64 K.g) ∧ wq.cell? ⟨w.heap.size, 5, none⟩ = some (.int .i64 K.k)) (with_reducible exact lw.cfg.cells) (first
      | (go_at_call 22; with_reducible refine (c22a _ lw.ws).mono ?_; rintro r w11 ⟨Q1, qc1, rfl, hq1, b⟩; replace lw := lw.below b; replace hV := words_below hV b)
      | (go_at_call 22; with_reducible refine (c22b _ hV).mono ?_; rintro r w11 ⟨Q2, qc2, rfl, hq2, b⟩; replace lw := lw.below b; replace hV := words_below hV b; replace hq1 := hq1.below b))
    clear c22a c22b
    have c23 := rlist_q hK hT0 ft.at lw.ws
    obtain ⟨l0, l1, l2, l3, l4, l5⟩ := lw.cfg.cells
    go_upto_region 12 with (go_at_call 23; with_reducible refine c23.mono ?_; rintro r w12 ⟨fa, fc, rfl, hI, b⟩; replace lw := lw.below b; replace hV := words_below hV b; replace hq1 := hq1.below b; replace hq2 := hq2.below b; clear b)
    clear l0 l1 l2 l3 l4 l5 c23
    have HLR := hid1 lw
    have HQ1 := hid1 hq1
    have HQ2 := hid1 hq2
    have HVV := hid1 hV
    have HT0 := hid1 hT0
    have HY5 := hid1 y5
    have HY6 := hid1 y6
    have HFT := hid1 ft
    have HYF := hid1 hYfit
    have hFl : F.length ≤ K.S := nodup_len K.S F hT0.nd hT0.ch.lt
    clear lw hq1 hq2 hV hT0 hF0 y5 y6 ft hYfit
    go_wp2
    go_loopw [11, 12, 13, 14] (fun fv bv gv sv wr => ∃ (j : Nat) (fa : Option Addr) (fc : Nat), j ≤ K.S ∧ sv = .int .i64 j ∧ bv = .int .i64 ((rbN K X j : Nat) : Int) ∧ gv = .int .i64 ((rgN K X j : Nat) : Int) ∧ fv = .slice fa (rfL K X F j).length fc ∧ IsI wr (.slice fa (rfL K X F j).length fc) (rfL K X F j) ∧ Below w12.heap.size w12 wr) (fun _ _ _ sv _ => K.S - (intOf sv).toNat)
    case atStart => exact ⟨0, fa, fc, Nat.zero_le _, rfl, rfl, rfl, rfl, hI, Below.refl _ _⟩
    case round =>
      clear hI
      obtain ⟨j, fb, fd, hj, rfl, rfl, rfl, rfl, hI, bel⟩ := hrel
      have hrl := rfL_len K X F j
      have hrb := rbN_le K X j
      have hI0 := hid1 hI
      have lc := (HLR.out.below bel).cfg.cells
      obtain ⟨l0, l1, l2, l3, l4, l5⟩ := lc
      by_cases hjS : j < K.S
      · have hjS1 : (j : Int) < (K.S : Int) := by omega
        obtain ⟨hk, hm, hgr, ha, hn, hs, hhv, hcase⟩ := rc_facts (F := F) (HFT.out.at (K.hd j)) (HY6.out j hjS) hg40.out
        obtain ⟨q0, q1, q2, q3, q4, q5⟩ := HQ1.out.keep bel hjS hhv
        have HN := hid1 (fun (wr : World) (b : Below w12.heap.size w12 wr) (hv : Hv) (e : hvW (Y.getD (K.hd j) 0) = hv) => HQ2.out.keep b hjS e)
        have HCASE := hid1 hcase
        have HII := hid1 hI
        have BEL := hid1 bel
        clear hhv hcase hI bel hI0
        simp only at q0 q1 q2 q3 q4 q5
        have HFL := hid1 hrl
        clear hrl
        go_upto_region 17 with fail
        have bel := BEL.out
        have hI := HII.out
        have hIl := fun g (hg : (Value.slice fb (rfL K X F j).length fd).ownBlock = some g) => hI.lt hg
        have hd : IsHd (wr.alloc (.cells #[.int .i64 hk, .int .i64 hm, .bool hgr, .int .i64 ha, .int .i64 hn, .int .i64 hs] 43)) wr.heap.size hk hm hgr ha hn hs := Hh.hd_new wr hk hm hgr ha hn hs
        have b := alloc_below wr (.cells #[.int .i64 hk, .int .i64 hm, .bool hgr, .int .i64 ha, .int .i64 hn, .int .i64 hs] 43)
        have hHn : w12.heap.size ≤ wr.heap.size := bel.size
        replace bel := bel.trans (b.mono bel.size)
        replace hI := hI.below b
        have hIn : ∀ g, (Value.slice fb (rfL K X F j).length fd).ownBlock = some g → g ∉ [wr.heap.size] := fun g hg c => by have := hIl g hg; simp at c; omega
        have HIN := hid1 hIn
        clear BEL HII hIl b hIn q0 q1 q2 q3 q4 q5
        have hrl := HFL.out
        generalize wr.alloc (.cells #[.int .i64 hk, .int .i64 hm, .bool hgr, .int .i64 ha, .int .i64 hn, .int .i64 hs] 43) = w15 at *
        generalize wr.heap.size = H at *
        obtain ⟨h0, h1, h2, h3, h4, h5⟩ := hd.cells
        have e4 : IntKind.i64.wrap ((j : Int) + 1) = ((j + 1 : Nat) : Int) := by rw [IntKind.wrap_i64]; omega
        rcases HCASE.out with ⟨k1, k2, k3, k4, k5⟩ | ⟨k1, k2, k3, k4, k5, k6, k7⟩ | ⟨k1, k2, k3, k4, k5, k6, k7⟩
        · have KF := hid1 (And.intro k3 (And.intro k4 k5))
          obtain ⟨v0, v1, v2, v3, v4, v5⟩ := HN.out _ bel _ k2
          simp only at v0 v1 v2 v3 v4 v5
          have k1b : (hk == 3) = false := by simpa using k1
          clear HCASE k2 k3 k4 k5
          go_upto_region 24 with fail
          go_quiet (fail)
          have bq := below_drewN (Below.refl w15.heap.size w15) nq
          replace bel := bel.trans (bq.mono bel.size)
          replace hI := hI.below bq
          clear bq v0 v1 v2 v3 v4 v5
          generalize w15.drewN nq = w20 at *
          go_wp2
          go_roundw
          case rel => exact ⟨j + 1, fb, fd, by omega, by go_num, by rw [KF.out.1], by rw [KF.out.2.1], by rw [KF.out.2.2], by rw [KF.out.2.2]; exact hI, bel⟩
          case measure => (first | (simp [intOf]; done) | (simp [intOf]; omega))
        · have KF := hid1 (And.intro k5 (And.intro k6 k7))
          have K4 := hid1 k4
          subst k1
          have e5 : IntKind.i64.wrap (hn + 1) = hn + 1 := by rw [IntKind.wrap_i64]; omega
          have k3b : decide (K.g ≤ hn + 1) = true := decide_eq_true k3
          have lc := (HLR.out.below bel).cfg.cells
          clear l0 l1 l2 l3 l4 l5
          obtain ⟨l0, l1, l2, l3, l4, l5⟩ := lc
          clear HCASE k4 k5 k6 k7
          go_upto_region 19 with fail
          have hf := hd.free 0
          go_upto_region 20 with fail
          have ch : Chg [H] w15 (w15.setCell ⟨H, 0, none⟩ (.int .i64 4)) := (Chg.refl _ _).setCell (by simp) _
          replace hI := hI.chg ch HIN.out
          replace hd : IsHd (w15.setCell ⟨H, 0, none⟩ (.int .i64 4)) H 4 hm hgr ha hn hs := Mm.heap_setCell_at (o := 0) hd (.int .i64 4)
          replace bel := bel.setCell (p := ⟨H, 0, none⟩) hHn (.int .i64 4)
          clear ch hf h0 h1 h2 h3 h4 h5 l0 l1 l2 l3 l4 l5
          generalize w15.setCell ⟨H, 0, none⟩ (.int .i64 4) = w16 at *
          obtain ⟨h0, h1, h2, h3, h4, h5⟩ := hd.cells
          obtain ⟨v0, v1, v2, v3, v4, v5⟩ := HN.out _ bel _ K4.out
          simp only at v0 v1 v2 v3 v4 v5
          have e6 : IntKind.i64.wrap (((rgN K X j : Nat) : Int) + 1) = ((rgN K X j + 1 : Nat) : Int) := by rw [IntKind.wrap_i64]; omega
          go_upto_region 24 with fail
          go_quiet (fail)
          have bq := below_drewN (Below.refl w16.heap.size w16) nq
          replace bel := bel.trans (bq.mono bel.size)
          replace hI := hI.below bq
          clear bq v0 v1 v2 v3 v4 v5
          generalize w16.drewN nq = w20 at *
          go_wp2
          go_roundw
          case rel => exact ⟨j + 1, fb, fd, by omega, by go_num, by rw [KF.out.1], by rw [KF.out.2.1]; go_num, by rw [KF.out.2.2], by rw [KF.out.2.2]; exact hI, bel⟩
          case measure => (first | (simp [intOf]; done) | (simp [intOf]; omega))
        · have KF := hid1 (And.intro k5 (And.intro k6 k7))
          have K4 := hid1 k4
          subst k1
          have e5 : IntKind.i64.wrap (hn + 1) = hn + 1 := by rw [IntKind.wrap_i64]; omega
          have k3b : decide (K.g ≤ hn + 1) = false := decide_eq_false k3
          have lc := (HLR.out.below bel).cfg.cells
          clear l0 l1 l2 l3 l4 l5
          obtain ⟨l0, l1, l2, l3, l4, l5⟩ := lc
          clear HCASE k4 k5 k6 k7
          have y0 := hd.free 0
          have y1 := hd.free 1
          have y2 := hd.free 2
          have y3 := hd.free 3
          have y4 := hd.free 4
          have y5 := hd.free 5
          go_upto_region 22 with fail
          have ch6 : Chg [H] w15 ((((((w15.setCell ⟨H, 0, none⟩ (.int .i64 0)).setCell ⟨H, 1, none⟩ (.int .i64 0)).setCell ⟨H, 2, none⟩ (.bool false)).setCell ⟨H, 3, none⟩ (.int .i64 0)).setCell ⟨H, 4, none⟩ (.int .i64 (hn + 1))).setCell ⟨H, 5, none⟩ (.int .i64 0)) := ((((((Chg.refl [H] w15).setCell (by simp) _).setCell (by simp) _).setCell (by simp) _).setCell (by simp) _).setCell (by simp) _).setCell (by simp) _
          replace hI := hI.chg ch6 HIN.out
          replace hd := hd_six hd 0 0 false 0 (hn + 1) 0
          replace bel := (((((bel.setCell (p := ⟨H, 0, none⟩) hHn (.int .i64 0)).setCell (p := ⟨H, 1, none⟩) hHn (.int .i64 0)).setCell (p := ⟨H, 2, none⟩) hHn (.bool false)).setCell (p := ⟨H, 3, none⟩) hHn (.int .i64 0)).setCell (p := ⟨H, 4, none⟩) hHn (.int .i64 (hn + 1))).setCell (p := ⟨H, 5, none⟩) hHn (.int .i64 0)
          clear ch6 y0 y1 y2 y3 y4 y5 h0 h1 h2 h3 h4 h5 l0 l1 l2 l3 l4 l5
          generalize ((((((w15.setCell ⟨H, 0, none⟩ (.int .i64 0)).setCell ⟨H, 1, none⟩ (.int .i64 0)).setCell ⟨H, 2, none⟩ (.bool false)).setCell ⟨H, 3, none⟩ (.int .i64 0)).setCell ⟨H, 4, none⟩ (.int .i64 (hn + 1))).setCell ⟨H, 5, none⟩ (.int .i64 0)) = w16 at *
          have e6 : IntKind.i64.wrap (((rbN K X j : Nat) : Int) + 1) = ((rbN K X j + 1 : Nat) : Int) := by rw [IntKind.wrap_i64]; omega
          have b2 := alloc_below w16 (.cells #[.int .i64 (j : Nat)] 3)
          have hHl := lt_of_block hd
          by_cases hz : rfL K X F j = []
          · have KZ := hid1 (KF.out.2.2.trans (by rw [hz]))
            rw [hz] at hI ⊢
            go_upto_region 23 with (at_builtin; refine wpList_append_no rfl _ _ rfl w16.heap.size 1 1 (Nat.le_refl _) rfl _ _ rfl ?_)
            have hI2 := isI_one w16 j 3 rfl
            replace bel := bel.trans (b2.mono bel.size)
            replace hd := hd.below b2
            clear hI b2
            generalize w16.alloc (.cells #[.int .i64 (j : Nat)] 3) = w17 at *
            generalize w16.heap.size = fq at *
            obtain ⟨h0, h1, h2, h3, h4, h5⟩ := hd.cells
            obtain ⟨v0, v1, v2, v3, v4, v5⟩ := HN.out _ bel _ K4.out
            simp only at v0 v1 v2 v3 v4 v5
            go_upto_region 24 with fail
            go_quiet (fail)
            have bq := below_drewN (Below.refl w17.heap.size w17) nq
            replace bel := bel.trans (bq.mono bel.size)
            replace hI2 := hI2.below bq
            clear bq v0 v1 v2 v3 v4 v5
            generalize w17.drewN nq = w20 at *
            go_wp2
            go_roundw
            case rel => exact ⟨j + 1, _, _, by omega, by go_num, by rw [KF.out.1]; go_num, by rw [KF.out.2.1], by rw [KZ.out]; rfl, by rw [KZ.out]; exact hI2, bel⟩
            case measure => (first | (simp [intOf]; done) | (simp [intOf]; omega))
          · obtain ⟨ad', cap', hv', _, h3'⟩ := hI.form
            simp only [Value.slice.injEq] at hv'
            obtain ⟨rfl, _, rfl⟩ := hv'
            obtain ⟨fg, fo, rfl⟩ := h3' hz
            have hys : ∀ i u, (ints (rfL K X F j))[i]? = some u → (w16.alloc (.cells #[.int .i64 (j : Nat)] 3)).cell? ((⟨fg, fo, none⟩ : Addr).add i) = some u := fun i u hu => by
              have hil : i < (rfL K X F j).length := by have := (List.getElem?_eq_some_iff.1 hu).1; rwa [ints_len] at this
              rw [Addr.add_lit]
              rw [ints_get _ i hil] at hu
              rw [← hu]
              exact (hI.below b2).cell i hil
            have HYS := hid1 hys
            have hll : [j].length + (rfL K X F j).length ≤ 1000000 := by simp only [List.length_cons, List.length_nil]; omega
            clear h3' hys
            go_upto_region 23 with (at_builtin; refine wpList_append_ints rfl _ _ rfl _ [j] (rfL K X F j) rfl (isI_one w16 j 3 rfl) ⟨fg, fo, none⟩ _ _ rfl rfl hz HYS.out hll ?_; intro v' w18 hI2 hgrow _; obtain ⟨a', c', rfl, _, _⟩ := hI2.form)
            replace bel := bel.trans (b2.mono bel.size)
            have hb2s : (w16.alloc (.cells #[.int .i64 (j : Nat)] 3)).heap.size = w16.heap.size + 1 := by simp
            have hw12 : w12.heap.size ≤ w16.heap.size := Nat.le_trans hHn (Nat.le_of_lt hHl)
            have hg2 : (w16.alloc (.cells #[.int .i64 (j : Nat)] 3)).grownBy w18 (some w16.heap.size) := hgrow
            have bel2 : Below w12.heap.size w12 w18 := ⟨hgrow.os.trans bel.os, hgrow.tape.trans bel.tape, hgrow.output.trans bel.output, Nat.le_trans bel.size hgrow.size, fun i hi => (hg2.block i (by omega) (fun e => by have e' : i = w16.heap.size := (by simpa using e); omega)).trans (bel.block i hi)⟩
            have hd2 : IsHd w18 H 0 0 false 0 (hn + 1) 0 := (hg2.block H (by omega) (fun e => by have e' : H = w16.heap.size := (by simpa using e); omega)).trans (hd.below b2)
            clear hI b2 hgrow hg2 bel hd HYS hll hb2s
            obtain ⟨h0, h1, h2, h3, h4, h5⟩ := hd2.cells
            obtain ⟨v0, v1, v2, v3, v4, v5⟩ := HN.out _ bel2 _ K4.out
            simp only at v0 v1 v2 v3 v4 v5
            go_upto_region 24 with fail
            go_quiet (fail)
            have bq := below_drewN (Below.refl w18.heap.size w18) nq
            replace bel2 := bel2.trans (bq.mono bel2.size)
            replace hI2 := hI2.below bq
            clear bq v0 v1 v2 v3 v4 v5
            generalize w18.drewN nq = w20 at *
            go_wp2
            go_roundw
            case rel => exact ⟨j + 1, a', c', by omega, by go_num, by rw [KF.out.1]; go_num, by rw [KF.out.2.1], by rw [KF.out.2.2]; rfl, by rw [KF.out.2.2]; exact hI2, bel2⟩
            case measure => (first | (simp [intOf]; done) | (simp [intOf]; omega))
      · obtain rfl : j = K.S := by omega
        have lr := HLR.out.below bel
        have g0 := lr.b
        have g1 := lr.g
        have g8 := lr.p
        have hV2 := words_below HVV.out bel
        have c19 := touchesX lr.mem
        have c25 := re_end (o := 0) g8 (.pointer (some ⟨M, 0, none⟩))
        have c23 := rlist_q hK HY5.out HYF.out hV2
        have hr65 : (rfL K X F K.S).length ≤ 65536 := by omega
        have HHI := hid1 hI
        have HLL := hid1 lr
        have HSM := hid1 (fun (wq : World) (v1 v2 : Value) (h1 : IsI wq v1 (rfL K X F K.S)) (h2 : IsI wq v2 (rfL K X F K.S)) => same_yes h1 h2 hr65)
        clear hV2 hI lr hI0 bel
        go_wp2_with (first
          | (go_at_call 19; with_reducible refine c19.mono ?_; rintro r w13 ⟨rfl, rfl⟩)
          | (go_at_call 23; with_reducible refine c23.mono ?_; rintro r w14 ⟨va, vc, rfl, hJ, b⟩; have lr2 := HLL.out.below b; have hI2 := HHI.out.below b; have c24 := HSM.out _ _ _ hJ hI2; clear hJ hI2)
          | (go_at_call 24; with_reducible refine c24.mono ?_; rintro r w15 ⟨rfl, b3⟩; have lr3 := lr2.below b3; have c25b := re_end (o := 0) lr3.p (.pointer (some ⟨M, 0, none⟩)); have c19b := touchesX lr3.mem)
          | (go_at_call 25; with_reducible refine c25b.mono ?_; rintro r w16 ⟨rfl, rfl⟩)
          | (go_at_call 19; with_reducible refine c19b.mono ?_; rintro r w17 ⟨rfl, rfl⟩))
        go_ret
        exact ⟨rfl, lr3.bel⟩

theorem reclaims_row (s a c d g k : Int) (ad : Option Addr) (len cap : Nat) (Z : Nat → Sv) (w : World) (hw : WT w) (hZ : RdV w ad len Z) (hP : len ≤ maxLen) :
    Calls Tryd.prog 4 #[.agg #[.int .i64 s, .int .i64 a, .int .i64 c, .int .i64 d, .int .i64 g, .int .i64 k], .slice ad len cap] w fun r w' => r = .returned (.bool true) ∧ Below w.heap.size w w' :=
  reclaims_law s a c d g k ad len cap Z w hZ (by unfold maxLen at hP; omega) hw
end Go.Proofs.YteechgmjaagbmabDoor
