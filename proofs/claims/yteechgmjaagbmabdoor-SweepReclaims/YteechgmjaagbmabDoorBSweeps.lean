/- SweepSweeps: the walk. -/
import Derived.Test.YteechgmjaagbmabDoorBNone
import Derived.Test.YteechgmjaagbmabDoorBSp2
import Derived.Test.YteechgmjaagbmabDoorPFit
namespace Go.Proofs.YteechgmjaagbmabDoor
open Go.RowKit
open Mm (IsMem MS touched Only IsWords)
open Hh (WT wordOf okW Hr)

theorem wt_stored6 {w : World} {r : Nat} (h : WT w) (hr : 0 < r) (v0 v1 v2 v3 v4 v5 : Value) : WT ((((((w.setCell ⟨r, 0, none⟩ v0).setCell ⟨r, 1, none⟩ v1).setCell ⟨r, 2, none⟩ v2).setCell ⟨r, 3, none⟩ v3).setCell ⟨r, 4, none⟩ v4).setCell ⟨r, 5, none⟩ v5) :=
  (((((h.set hr v0).set hr v1).set hr v2).set hr v3).set hr v4).set hr v5
theorem of_fit {K : Cf} (hK : K.Ok) {w : World} {R : Nat} {X : List Nat} (h : IsWords w R X) (ft : Fitw K X) : Calls Tryd.prog 10 #[.slice (some ⟨R, 0, none⟩) K.N K.N] w fun r w' => ∃ M G, r = .returned (.pointer (some ⟨M, 0, none⟩)) ∧ MemX w' M G X 0 ∧ w.heap.size ≤ M ∧ w.heap.size ≤ G ∧ Below w.heap.size w w' := by
  have hN := hK.N_b
  have q := Mm.of_any h ft.lt (by rw [ft.len]; omega)
  rw [ft.len] at q
  exact q.mono fun r w' ⟨M, G, h1, h2, h3⟩ => ⟨M, G, h1, ⟨_, h2, rfl, rfl⟩, h3⟩
theorem words_lt {w : World} {R : Nat} {X : List Nat} (h : IsWords w R X) : R < w.heap.size := lt_of_block h
theorem RdV.below {w w' : World} {ad : Option Addr} {n : Nat} {Z : Nat → Sv} (h : RdV w ad n Z) (b : Below w.heap.size w w') : RdV w' ad n Z := fun i hi => by
  obtain ⟨b', off, rfl, hbl, ⟨q0, q1, q2, q3, q4, q5⟩, bad, bcap, q6, hl, hb⟩ := h i hi
  have hs := b.size
  have hc : ∀ o v, w.cell? ⟨b', o, none⟩ = some v → w'.cell? ⟨b', o, none⟩ = some v := fun o v q => (b.cell (p := ⟨b', o, none⟩) hbl).trans q
  refine ⟨b', off, rfl, by omega, ⟨hc _ _ q0, hc _ _ q1, hc _ _ q2, hc _ _ q3, hc _ _ q4, hc _ _ q5⟩, bad, bcap, hc _ _ q6, hl, fun j hj => ?_⟩
  obtain ⟨c', o', rfl, hcl, q, hv⟩ := hb j hj
  exact ⟨c', o', rfl, by omega, (b.cell (p := ⟨c', o' + j, none⟩) hcl).trans q, hv⟩
theorem nb_ne {k : Nat} (h : k ≠ 8) (hk : k ≤ 10) : ¬ (nb k).toList = [104, 101, 97, 100, 101, 114] := by
  have h11 : k = 0 ∨ k = 1 ∨ k = 2 ∨ k = 3 ∨ k = 4 ∨ k = 5 ∨ k = 6 ∨ k = 7 ∨ k = 9 ∨ k = 10 := by omega
  rcases h11 with rfl | rfl | rfl | rfl | rfl | rfl | rfl | rfl | rfl | rfl <;> decide +kernel
/-- What is known of the world behind a Sweep. -/
structure Lw (w wr : World) (K : Cf) (M G P R : Nat) (X Y : List Nat) (T : Nat) (gone : Nat) : Prop where
  mem : MemX wr M G Y (T : Int)
  wt : WT wr
  cfg : IsCfg wr w.heap.size K.S K.a K.C K.D K.g K.k
  bel : Below w.heap.size w wr
  ws : IsWords wr R X
  g : wr.cell? ⟨P, 0, none⟩ = some (.int .i64 (gone : Nat))
  p : wr.cell? ⟨P, 8, none⟩ = some (.int .i64 2)
  lt : P < wr.heap.size
theorem Lw.below {w wr w' : World} {K : Cf} {M G P R : Nat} {X Y : List Nat} {T gone : Nat} (h : Lw w wr K M G P R X Y T gone) (b : Below wr.heap.size wr w') : Lw w w' K M G P R X Y T gone :=
  ⟨h.mem.below b, h.wt.below b, h.cfg.below b, seq_below h.bel b, words_below h.ws b, (b.cell (p := ⟨P, 0, none⟩) h.lt).trans h.g, (b.cell (p := ⟨P, 8, none⟩) h.lt).trans h.p, Nat.lt_of_lt_of_le h.lt b.size⟩
theorem lw_end {w w6 w7 : World} {K : Cf} (hK : K.Ok) {M G P R : Nat} {X : List Nat} {e : Nat} (h : SwI w6 K M G P X (sw0 e) 0 (spN K e X) w7) (is : Nn w w6 K.S K.a K.C K.D K.g K.k) (hR : IsWords w6 R X) (h1 : R ≠ P ∧ R ≠ M ∧ R ≠ G) (h2 : w.heap.size < P ∧ w.heap.size < M ∧ w.heap.size < G) :
    Lw w w7 K M G P R X (swpX K e X K.S) (spN K e X) (cnS K e X K.S) := by
  obtain ⟨c, i7, s7, _, _⟩ := h
  obtain ⟨e1, e2, e3⟩ := sp_end hK e X
  have g0 := i7.cell s7.gone
  have g8 := i7.cell s7.pc
  have hm := i7.mem
  rw [e2] at g0
  rw [e3] at g8
  rw [e1, Nat.zero_add] at hm
  exact ⟨hm, i7.wt, is.cfg.chg i7.ch (by simp; omega), i7.ch.below is.bel (by simp; omega) (Nat.le_refl _), words_chg hR i7.ch (by simp; omega), g0, g8, lt_of_block i7.blk⟩

set_option maxRecDepth 100000 in
set_option maxHeartbeats 16000000 in
theorem sweeps_law (s a c d g k : Int) (ad : Option Addr) (len cap : Nat) (Z : Nat → Sv) (w : World) (hZ : RdV w ad len Z) (hP : len < 9223372036854775808) (e : Nat) (he : e < 18446744073709551616) (hw : WT w) :
    Calls Tryd.prog 3 #[.agg #[.int .i64 s, .int .i64 a, .int .i64 c, .int .i64 d, .int .i64 g, .int .i64 k], .slice ad len cap, .int .u64 (e : Nat)] w fun r w' => r = .returned (.bool true) ∧ Below w.heap.size w w' := by
  have hw0' := hw
  have HZ := hid1 hZ
  clear hZ
  have cf := Fit_any s a c d g k
  have bel := alloc_below w (.cells #[.int .i64 s, .int .i64 a, .int .i64 c, .int .i64 d, .int .i64 g, .int .i64 k] 23)
  have hh := cfg_new w s a c d g k
  replace hw := hw.below bel
  have hw0 : 0 < w.heap.size := by have := hw0'.lt; omega
  unfold cs at cf
  go_enter Tryd.func3, Tryd.ntmps3
  go_upto_region 1 with fail
  generalize w.alloc (.cells #[.int .i64 s, .int .i64 a, .int .i64 c, .int .i64 d, .int .i64 g, .int .i64 k] 23) = w1 at *
  obtain ⟨l0, l1, l2, l3, l4, l5⟩ := hh.cells
  go_upto_region 2 with (first
    | (go_at_call 7; with_reducible refine (cf _).mono ?_; rintro e1 w2 ⟨⟨s', a', c', d', g', k', rfl, hs, ha, hc, hd, hg, hk⟩, b⟩; replace bel := seq_below bel b; replace hh := hh.below b; replace hw := hw.below b; clear l0 l1 l2 l3 l4 l5; obtain ⟨l0, l1, l2, l3, l4, l5⟩ := hh.cells; have y0 := hh.free 0; have y1 := hh.free 1; have y2 := hh.free 2; have y3 := hh.free 3; have y4 := hh.free 4; have y5 := hh.free 5))
  have h3 := cfg_stored6 hh s' a' c' d' g' k'
  have bel3 := below_stored6 bel (Nat.le_refl w.heap.size) (.int .i64 s') (.int .i64 a') (.int .i64 c') (.int .i64 d') (.int .i64 g') (.int .i64 k')
  have hw3 := wt_stored6 hw hw0 (.int .i64 s') (.int .i64 a') (.int .i64 c') (.int .i64 d') (.int .i64 g') (.int .i64 k')
  clear l0 l1 l2 l3 l4 l5 y0 y1 y2 y3 y4 y5 hh bel cf hw
  generalize ((((((w2.setCell ⟨w.heap.size, 0, none⟩ (.int .i64 s')).setCell ⟨w.heap.size, 1, none⟩ (.int .i64 a')).setCell ⟨w.heap.size, 2, none⟩ (.int .i64 c')).setCell ⟨w.heap.size, 3, none⟩ (.int .i64 d')).setCell ⟨w.heap.size, 4, none⟩ (.int .i64 g')).setCell ⟨w.heap.size, 5, none⟩ (.int .i64 k')) = w3 at *
  have hr : rightB s' a' c' d' g' k' = true := rightB_iff.2 (by omega)
  obtain ⟨K, hK, rfl, rfl, rfl, rfl, rfl, rfl⟩ := Cf.of_right hr
  have hS12 : K.S ≤ 12 := by omega
  have hg40 : Hid (1 ≤ K.g ∧ K.g ≤ 40) := hg
  clear hs ha hc hd hg hk b hr w1 w2
  have is : Nn w w3 K.S K.a K.C K.D K.g K.k := ⟨h3, bel3, hw3⟩
  clear h3 bel3 hw3
  obtain ⟨l0, l1, l2, l3, l4, l5⟩ := is.cfg.cells
  clear hw0'
  by_cases hlen : 20 < len
  · have hl1 : (20 : Int) < (len : Int) := by omega
    go_wp2_with (go_at_call 8; with_reducible refine (awake_any _ is.wt).mono ?_; rintro r w5 ⟨rfl, b⟩; replace is := is.below b)
    go_ret
    exact ⟨rfl, is.bel⟩
  · have hl1 : ¬ (20 : Int) < (len : Int) := by omega
    go_upto_region 4 with (go_at_call 8; with_reducible refine (awake_any _ is.wt).mono ?_; rintro r w5 ⟨rfl, b⟩; replace is := is.below b)
    clear l0 l1 l2 l3 l4 l5 b
    obtain ⟨l0, l1, l2, l3, l4, l5⟩ := is.cfg.cells
    have hrd := RdV.below HZ.out is.bel
    have c9 := laid_any hK (cap := cap) (rcap := 0) (vcap := 0) hrd (rdU_nil _ none (fun _ => 0)) (rdU_nil _ none (fun _ => 0)) hP (by omega) (by omega) is.wt
    unfold Cf.cs at c9
    have hcw := is.cfg.lt
    obtain ⟨X, hX⟩ : ∃ X, laidX K len Z 0 (fun _ => 0) 0 (fun _ => 0) = X := ⟨_, rfl⟩
    rw [hX] at c9
    clear hX hrd HZ
    go_upto_region 5 with (go_at_call 9; with_reducible refine c9.mono ?_; rintro r w6 ⟨R, rfl, hR, ft, hR1, b⟩; replace is := is.below b)
    clear l0 l1 l2 l3 l4 l5 b c9
    have c10 := of_fit hK hR ft
    go_upto_region 6 with (go_at_call 10; with_reducible refine c10.mono ?_; rintro r w7 ⟨M, G, rfl, hm, hM, hG, b⟩; have hRl := words_lt hR; replace is := is.below b; replace hR := words_below hR b; clear c10 b)
    have c11 := newSweep_yes hK e
    unfold Cf.cs at c11
    have hml := hm.lt
    obtain ⟨l0, l1, l2, l3, l4, l5⟩ := is.cfg.cells
    go_upto_region 7 with (go_at_call 11; with_reducible refine (c11 _).mono ?_; rintro r w8 ⟨P, rfl, nb⟩; replace is := is.below nb.bel; replace hR := words_below hR nb.bel; replace hm := hm.below nb.bel)
    clear l0 l1 l2 l3 l4 l5 c11
    have hPn := nb.new
    have hPM : P ≠ M ∧ P ≠ G := by omega
    have hpos : 0 < P ∧ 0 < M ∧ 0 < G := by omega
    have hc2 := cnS_le K e X K.S
    have q12 := sw_ends hK (most := 2 * K.S) (swI_new hK (T0 := 0) he hm is.wt ft.len (by omega) nb.blk hPM hpos) (n := spN K e X) (by have := hK.s1; unfold spN; omega) (by unfold spN; omega) (by omega) (by omega) (by show 0 < _; omega) (sp_pc hK e X)
    have HE := hid1 (fun (w9 : World) (h : SwI w8 K M G P X (sw0 e) 0 (spN K e X) w9) => lw_end hK h is hR (by omega) (by omega))
    obtain ⟨l0, l1, l2, l3, l4, l5⟩ := is.cfg.cells
    rw [show ((2 * K.S : Nat) : Int) = 2 * (K.S : Int) by omega] at q12
    have e2 : IntKind.i64.wrap (2 * (K.S : Int)) = 2 * (K.S : Int) := by rw [IntKind.wrap_i64]; omega
    clear nb
    go_upto_region 9 with (go_at_call 12; with_reducible refine q12.mono ?_; rintro r w9 ⟨rfl, s9⟩; have lw := HE.out _ s9; clear s9)
    clear q12 HE l0 l1 l2 l3 l4 l5 hm hR is
    have hN := hK.N_b
    have c13 := wordsX lw.mem (n := K.N) (by rw [swpX_len]; exact ft.len) (by omega)
    have HY := hid1 (fun i (hi : i < K.N) => swp_at (K := K) (e := e) ft.len hi)
    have HYl : Hid ((swpX K e X K.S).length = K.N) := by show (swpX K e X K.S).length = K.N; rw [swpX_len]; exact ft.len
    generalize swpX K e X K.S = Y at *
    generalize spN K e X = T1 at *
    go_upto_region 10 with (go_at_call 13; with_reducible refine c13.mono ?_; rintro r w10 ⟨V, rfl, hV, hV1, b⟩; replace lw := lw.below b; clear b c13)
    have c14 := words_r K.C K.D K.S K.B K.a K.g K.k hK.c8 hK.d16 hK.s64 hK.b hK.b8
    unfold cs at c14
    rw [show nW K.C K.D K.B K.S = K.N from rfl] at c14
    obtain ⟨l0, l1, l2, l3, l4, l5⟩ := lw.cfg.cells
    go_upto_region 12 with (go_at_call 14; with_reducible refine (c14 _).mono ?_; rintro r w11 ⟨L, lcap, rfl, hL, hL1, b⟩; replace lw := lw.below b; replace hV := words_below hV b; clear b)
    clear l0 l1 l2 l3 l4 l5 c14
    have HCN := hid1 (cnI_all K e X)
    have HLE := hid1 (cnI_le K e X)
    have Hws := hid1 lw.ws
    have HV := hid1 hV
    have HL := hid1 hL
    have LW := hid1 lw
    have HF := hid1 ft
    clear lw hV hL ft
    go_wp2
    go_loopw [11, 13] (fun gv iv wr => ∃ i : Nat, i ≤ K.N ∧ iv = .int .i64 i ∧ gv = .int .i64 ((cnI K e X i : Nat) : Int) ∧ Below w11.heap.size w11 wr) (fun _ iv _ => K.N - (intOf iv).toNat)
    case atStart => exact ⟨0, Nat.zero_le _, rfl, rfl, Below.refl _ _⟩
    case round =>
      obtain ⟨i, hi, rfl, rfl, bel⟩ := hrel
      by_cases hiN : i < K.N
      · have q1 := (bel.cell (p := ⟨R, i, none⟩) (words_lt Hws.out)).trans (Mm.words_at Hws.out i (by rw [HF.out.len]; exact hiN))
        have q2 := (bel.cell (p := ⟨V, i, none⟩) (words_lt HV.out)).trans (Mm.words_at HV.out i (by rw [HYl.out]; exact hiN))
        have q3 := (bel.cell (p := ⟨L, i * 3, none⟩) HL.out.lt).trans (HL.out.at i hiN).1
        have hYi := HY.out i hiN
        have hWl := HF.out.at i
        have HC1 : Hid (cnI K e X (i + 1) = cnI K e X i + (if (hdI K i && canS (X.getD i 0) e) = true then 1 else 0)) := rfl
        have hci := HLE.out i
        rw [hYi] at q2
        obtain ⟨W, hW⟩ : ∃ W, X.getD i 0 = W := ⟨_, rfl⟩
        rw [hW] at q1 q2 hWl HC1
        clear hYi hW
        generalize cnI K e X i = ci at *
        have hiN1 : (i : Int) < (K.N : Int) := by omega
        cases hh : hdI K i
        · rw [hh] at q2 HC1
          simp only [Bool.false_and, Bool.false_eq_true, if_false, Nat.add_zero] at q2 HC1
          have hk8 : (wat K.C K.D K.B i).1 ≠ 8 := by unfold hdI at hh; simpa using hh
          have hnm := nb_ne hk8 (wat_le K.C K.D K.B i)
          generalize nb (wat K.C K.D K.B i).1 = nm at *
          clear hk8 hh
          go_wp2
          go_roundw
          case rel => exact ⟨i + 1, by omega, by go_num, by rw [HC1.out], bel⟩
          case measure => (first | (simp [intOf]; done) | (simp [intOf]; omega))
        · rw [hh] at q2 HC1
          simp only [Bool.true_and] at q2 HC1
          have hk8 : (wat K.C K.D K.B i).1 = 8 := by unfold hdI at hh; simpa using hh
          rw [hk8] at q3
          have q3' : wr.cell? ⟨L, i * 3, none⟩ = some (.string ⟨#[104, 101, 97, 100, 101, 114]⟩) := q3
          clear q3 hk8 hh
          have c15 := lives_any hWl
          have c16 := marked_any hWl he
          have hcl := can_liv W e
          cases hc : canS W e
          · rw [hc] at q2 HC1
            simp only [Bool.false_eq_true, if_false, Nat.add_zero] at q2 HC1
            rw [hc] at hcl
            cases hl : livW W
            · rw [hl] at c15
              clear hcl hc hl
              go_wp2_with (go_at_call 15; with_reducible refine (c15 _).mono ?_; rintro r w12 ⟨rfl, b⟩; replace bel := bel.trans (b.mono bel.size); replace q2 := (b.cell (p := ⟨V, i, none⟩) (Hh.lt_of_cell q2)).trans q2)
              go_roundw
              case rel => exact ⟨i + 1, by omega, by go_num, by rw [HC1.out], bel⟩
              case measure => (first | (simp [intOf]; done) | (simp [intOf]; omega))
            · rw [hl] at c15 hcl
              have hm : mkdW W e = true := by simpa using hcl.symm
              rw [hm] at c16
              clear hcl hc hl hm
              go_wp2_with (first
                | (go_at_call 15; with_reducible refine (c15 _).mono ?_; rintro r w12 ⟨rfl, b⟩; replace bel := bel.trans (b.mono bel.size); replace q2 := (b.cell (p := ⟨V, i, none⟩) (Hh.lt_of_cell q2)).trans q2)
                | (go_at_call 16; with_reducible refine (c16 _).mono ?_; rintro r w13 ⟨rfl, b⟩; replace bel := bel.trans (b.mono bel.size); replace q2 := (b.cell (p := ⟨V, i, none⟩) (Hh.lt_of_cell q2)).trans q2))
              go_roundw
              case rel => exact ⟨i + 1, by omega, by go_num, by rw [HC1.out], bel⟩
              case measure => (first | (simp [intOf]; done) | (simp [intOf]; omega))
          · rw [hc] at q2 HC1
            simp only [if_true] at q2 HC1
            have hok : okW W = true := by unfold canS at hc; simp only [Bool.and_eq_true] at hc; exact hc.1
            obtain ⟨Kk, Mk, gr, A, Nn, Sk, hH, rfl⟩ := Hh.okW_parts hWl hok
            obtain ⟨p0, p1, p2, p3, p4, p5, p6, p7⟩ := Hh.word_parts gr hH
            have hst : Hh.stampN e < 65536 := by unfold Hh.stampN; omega
            have hrt : rtW (wordOf Kk Mk gr.toNat A Nn Sk) e = wordOf 3 Mk (false : Bool).toNat A Nn (Hh.stampN e) := by unfold rtW; rw [if_pos hc, p1, p3, p5]; rfl
            rw [hrt] at q2
            rw [hc] at hcl
            have hl : livW (wordOf Kk Mk gr.toNat A Nn Sk) = true := by cases h : livW (wordOf Kk Mk gr.toNat A Nn Sk) <;> simp [h] at hcl; rfl
            rw [hl] at c15 hcl
            have hm : mkdW (wordOf Kk Mk gr.toNat A Nn Sk) e = false := by simpa using hcl.symm
            rw [hm] at c16
            have c17 := Hh.runpack_word gr hH
            have c18 : ∀ w, Calls Tryd.prog 18 #[.agg #[.int .i64 3, .int .i64 (Mk : Nat), .bool false, .int .i64 (A : Nat), .int .i64 (Nn : Nat), .int .i64 (Hh.stampN e : Nat)]] w fun r w' => r = .returned (.int .u64 ((wordOf 3 Mk (false : Bool).toNat A Nn (Hh.stampN e) : Nat) : Int)) ∧ Below w.heap.size w w' := Hh.rpack_any 3 Mk false A Nn (Hh.stampN e) (by omega) hH.m hH.a hH.n hst
            have e5 : (e : Int) % 65536 = ((Hh.stampN e : Nat) : Int) := by unfold Hh.stampN; omega
            have e6 : (e : Int).tmod 65536 = ((Hh.stampN e : Nat) : Int) := by rw [Int.tmod_eq_emod_of_nonneg (by omega)]; exact e5
            have e7 : IntKind.i64.wrap ((Hh.stampN e : Nat) : Int) = ((Hh.stampN e : Nat) : Int) := by rw [IntKind.wrap_i64]; omega
            have e8 : IntKind.i64.wrap ((ci : Int) + 1) = ((ci + 1 : Nat) : Int) := by rw [IntKind.wrap_i64]; omega
            clear hcl hc hl hm hrt p0 p1 p2 p3 p4 p5 p6 p7 hok hst
            generalize wordOf Kk Mk gr.toNat A Nn Sk = W at *
            generalize wordOf 3 Mk (false : Bool).toNat A Nn (Hh.stampN e) = W3 at *
            generalize Hh.stampN e = st at *
            go_upto_region 18 with (first
              | (go_at_call 15; with_reducible refine (c15 _).mono ?_; rintro r w12 ⟨rfl, b⟩; replace bel := bel.trans (b.mono bel.size); replace q2 := (b.cell (p := ⟨V, i, none⟩) (Hh.lt_of_cell q2)).trans q2)
              | (go_at_call 16; with_reducible refine (c16 _).mono ?_; rintro r w13 ⟨rfl, b⟩; replace bel := bel.trans (b.mono bel.size); replace q2 := (b.cell (p := ⟨V, i, none⟩) (Hh.lt_of_cell q2)).trans q2)
              | (go_at_call 17; with_reducible refine (c17 _).mono ?_; rintro r w14 ⟨rfl, b⟩; replace bel := bel.trans (b.mono bel.size); replace q2 := (b.cell (p := ⟨V, i, none⟩) (Hh.lt_of_cell q2)).trans q2))
            have hd : Hh.IsHd (w14.alloc (.cells #[.int .i64 (Kk : Nat), .int .i64 (Mk : Nat), .bool gr, .int .i64 (A : Nat), .int .i64 (Nn : Nat), .int .i64 (Sk : Nat)] 43)) w14.heap.size Kk Mk gr A Nn Sk := Hh.hd_new w14 Kk Mk gr A Nn Sk
            have b := alloc_below w14 (.cells #[.int .i64 (Kk : Nat), .int .i64 (Mk : Nat), .bool gr, .int .i64 (A : Nat), .int .i64 (Nn : Nat), .int .i64 (Sk : Nat)] 43)
            have hVl := Hh.lt_of_cell q2
            have hHn : w11.heap.size ≤ w14.heap.size := bel.size
            have hVn : V ≠ w14.heap.size := by have : V < w14.heap.size := hVl; omega
            replace bel := bel.trans (b.mono bel.size)
            replace q2 := (b.cell (p := ⟨V, i, none⟩) hVl).trans q2
            generalize w14.alloc (.cells #[.int .i64 (Kk : Nat), .int .i64 (Mk : Nat), .bool gr, .int .i64 (A : Nat), .int .i64 (Nn : Nat), .int .i64 (Sk : Nat)] 43) = w15 at *
            generalize w14.heap.size = H at *
            clear q1 q3' c15 c16 c17 b hVl
            have hf := hd.free 0
            have hc := hd.cells.1
            go_upto_region 19 with fail
            replace hd : Hh.IsHd (w15.setCell ⟨H, 0, none⟩ (.int .i64 3)) H 3 Mk gr A Nn Sk := Mm.heap_setCell_at (o := 0) hd (.int .i64 3)
            replace q2 := (World.cell?_of_block (w := w15) (w' := w15.setCell ⟨H, 0, none⟩ (.int .i64 3)) (a := ⟨V, i, none⟩) (Below.heap_setCell w15 ⟨H, 0, none⟩ (.int .i64 3) V hVn)).trans q2
            replace bel := bel.setCell (p := ⟨H, 0, none⟩) hHn (.int .i64 3)
            clear hf hc
            generalize w15.setCell ⟨H, 0, none⟩ (.int .i64 3) = w16 at *
            have hf := hd.free 2
            have hc := hd.cells.2.2.1
            go_upto_region 20 with fail
            replace hd : Hh.IsHd (w16.setCell ⟨H, 2, none⟩ (.bool false)) H 3 Mk false A Nn Sk := Mm.heap_setCell_at (o := 2) hd (.bool false)
            replace q2 := (World.cell?_of_block (w := w16) (w' := w16.setCell ⟨H, 2, none⟩ (.bool false)) (a := ⟨V, i, none⟩) (Below.heap_setCell w16 ⟨H, 2, none⟩ (.bool false) V hVn)).trans q2
            replace bel := bel.setCell (p := ⟨H, 2, none⟩) hHn (.bool false)
            clear hf hc
            generalize w16.setCell ⟨H, 2, none⟩ (.bool false) = w17 at *
            have hf := hd.free 5
            have hc := hd.cells.2.2.2.2.2
            go_upto_region 21 with fail
            replace hd : Hh.IsHd (w17.setCell ⟨H, 5, none⟩ (.int .i64 (st : Nat))) H 3 Mk false A Nn st := Mm.heap_setCell_at (o := 5) hd (.int .i64 (st : Nat))
            replace q2 := (World.cell?_of_block (w := w17) (w' := w17.setCell ⟨H, 5, none⟩ (.int .i64 (st : Nat))) (a := ⟨V, i, none⟩) (Below.heap_setCell w17 ⟨H, 5, none⟩ (.int .i64 (st : Nat)) V hVn)).trans q2
            replace bel := bel.setCell (p := ⟨H, 5, none⟩) hHn (.int .i64 (st : Nat))
            clear hf hc
            generalize w17.setCell ⟨H, 5, none⟩ (.int .i64 (st : Nat)) = w18 at *
            obtain ⟨h0, h1, h2, h3, h4, h5⟩ := hd.cells
            go_wp2_with (go_at_call 18; with_reducible refine (c18 _).mono ?_; rintro r w19 ⟨rfl, b⟩; replace bel := bel.trans (b.mono bel.size); replace q2 := (b.cell (p := ⟨V, i, none⟩) (Hh.lt_of_cell q2)).trans q2)
            go_roundw
            case rel => exact ⟨i + 1, by omega, by go_num, by rw [HC1.out]; go_num, bel⟩
            case measure => (first | (simp [intOf]; done) | (simp [intOf]; omega))
      · obtain rfl : i = K.N := by omega
        rw [HCN.out]
        have lw := LW.out.below bel
        have g0 := lw.g
        have g8 := lw.p
        have c19 := touchesX lw.mem
        have c20 := sw_end (o := 0) g8 (.pointer (some ⟨M, 0, none⟩))
        have bel2 := lw.bel
        clear lw LW HCN
        generalize cnS K e X K.S = cn at *
        go_wp2_with (first
          | (go_at_call 19; with_reducible refine c19.mono ?_; rintro r w12 ⟨rfl, rfl⟩)
          | (go_at_call 20; with_reducible refine c20.mono ?_; rintro r w13 ⟨rfl, rfl⟩))
        go_ret
        exact ⟨rfl, bel2⟩

theorem sweeps_row (s a c d g k : Int) (ad : Option Addr) (len cap : Nat) (Z : Nat → Sv) (e : Nat) (he : e < 18446744073709551616) (w : World) (hw : WT w) (hZ : RdV w ad len Z) (hP : len ≤ maxLen) :
    Calls Tryd.prog 3 #[.agg #[.int .i64 s, .int .i64 a, .int .i64 c, .int .i64 d, .int .i64 g, .int .i64 k], .slice ad len cap, .int .u64 (e : Nat)] w fun r w' => r = .returned (.bool true) ∧ Below w.heap.size w w' :=
  sweeps_law s a c d g k ad len cap Z w hZ (by unfold maxLen at hP; omega) e he hw
end Go.Proofs.YteechgmjaagbmabDoor
