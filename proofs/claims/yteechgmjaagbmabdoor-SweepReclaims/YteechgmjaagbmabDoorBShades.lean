/- SweepShades: the walk. -/
import Derived.Test.YteechgmjaagbmabDoorBSweeps
import Derived.Test.YteechgmjaagbmabDoorBShP
namespace Go.Proofs.YteechgmjaagbmabDoor
open Go.RowKit
open Mm (IsMem MS touched Only IsWords)
open Hh (WT wordOf okW Hr IsHd rightH)

theorem heads_r {K : Cf} (hK : K.Ok) {b off cap : Nat} {X : List Nat} (hX : X.length = K.N) (hlt : ∀ i, X.getD i 0 < 18446744073709551616) {w : World} (hr : RdW w b off X) :
    Calls Tryd.prog 22 #[.agg K.cs, .slice (some ⟨b, off, none⟩) K.N cap] w fun e w' => ∃ g gcap, e = .returned (.slice (some ⟨g, 0, none⟩) K.S gcap) ∧ (∀ s, s < K.S → ∀ j, j < 6 → w'.cell? ⟨g, s * 6 + j, none⟩ = (hvC (hvW (X.getD (K.hd s) 0)))[j]?) ∧ w.heap.size ≤ g ∧ Below w.heap.size w w' := by
  refine (heads_any hK hX hlt hr).mono fun e w' ⟨v, he, st⟩ => ?_
  rcases st.own.2 with ⟨_, hn⟩ | ⟨g', cap, cur, rfl, hb, hg, _, _, _, ht⟩
  · have := hK.s1; omega
  · refine ⟨g', cap, he, fun s hs j hj => ?_, by omega, st.bel⟩
    have e1 : w'.cell? ⟨g', s * 6 + j, none⟩ = cur[s * 6 + j]? := by simp [World.cell?, hg]
    rw [e1, ← hdsL_at K X hj K.S hs, ← ht, List.getElem?_take_of_lt (by omega)]
    simp
/-- What is known of the world within the law. -/
structure Sx (w wr : World) (s a c d g k : Int) (kk mm : Int) (gg : Bool) (aa nn ss : Int) : Prop where
  cfg : IsCfg wr w.heap.size s a c d g k
  hd : IsHd wr (w.heap.size + 1) kk mm gg aa nn ss
  bel : Below w.heap.size w wr
  wt : WT wr
theorem Sx.below {w wr w' : World} {s a c d g k kk mm : Int} {gg : Bool} {aa nn ss : Int} (h : Sx w wr s a c d g k kk mm gg aa nn ss) (b : Below wr.heap.size wr w') : Sx w w' s a c d g k kk mm gg aa nn ss :=
  ⟨h.cfg.below b, h.hd.below b, seq_below h.bel b, h.wt.below b⟩
theorem Sx.chg {w wr w' : World} {s a c d g k kk mm : Int} {gg : Bool} {aa nn ss : Int} {L : List Nat} (h : Sx w wr s a c d g k kk mm gg aa nn ss) (b : Chg L wr w') (hn : ∀ i ∈ L, w.heap.size + 2 ≤ i) (hw : WT w') : Sx w w' s a c d g k kk mm gg aa nn ss :=
  ⟨h.cfg.chg b (fun c => by have := hn _ c; omega), b.at h.hd (fun c => by have := hn _ c; omega), b.below h.bel (fun i hi => by have := hn i hi; omega) (Nat.le_refl _), hw⟩
theorem heads0 {K : Cf} (hK : K.Ok) {b off cap : Nat} {X : List Nat} (hX : X.length = K.N) (hlt : ∀ i, X.getD i 0 < 18446744073709551616) {w : World} (hr : RdW w b off X) {hv : Hv} (h0 : hvW (X.getD (K.hd 0) 0) = hv) :
    Calls Tryd.prog 22 #[.agg K.cs, .slice (some ⟨b, off, none⟩) K.N cap] w fun e w' => ∃ g gcap, e = .returned (.slice (some ⟨g, 0, none⟩) K.S gcap) ∧ (w'.cell? ⟨g, 0, none⟩ = some (.int .i64 hv.k) ∧ w'.cell? ⟨g, 1, none⟩ = some (.int .i64 hv.m) ∧ w'.cell? ⟨g, 2, none⟩ = some (.bool hv.g) ∧ w'.cell? ⟨g, 3, none⟩ = some (.int .i64 hv.a) ∧ w'.cell? ⟨g, 4, none⟩ = some (.int .i64 hv.n) ∧ w'.cell? ⟨g, 5, none⟩ = some (.int .i64 hv.s)) ∧ Below w.heap.size w w' := by
  refine (heads_r hK hX hlt hr).mono fun e w' ⟨g, gcap, he, hc, _, hb⟩ => ⟨g, gcap, he, ?_, hb⟩
  have q := fun j (hj : j < 6) => hc 0 hK.s1 j hj
  rw [h0] at q
  have q0 := q 0 (by omega)
  have q1 := q 1 (by omega)
  have q2 := q 2 (by omega)
  have q3 := q 3 (by omega)
  have q4 := q 4 (by omega)
  have q5 := q 5 (by omega)
  simp only [Nat.zero_mul, Nat.zero_add] at q0 q1 q2 q3 q4 q5
  exact ⟨q0, q1, q2, q3, q4, q5⟩
/-- The same, with the Sweep's count and the memory. -/
structure Sy (w wr : World) (K : Cf) (P M G : Nat) (X : List Nat) (T : Int) (M2 : Nat) (gg : Bool) (A Nn Sk : Nat) : Prop where
  x : Sx w wr K.S K.a K.C K.D K.g K.k 1 M2 gg A Nn Sk
  g : wr.cell? ⟨P, 0, none⟩ = some (.int .i64 0)
  mem : MemX wr M G X T
  lt : P < wr.heap.size
theorem Sy.below {w wr w' : World} {K : Cf} {P M G : Nat} {X : List Nat} {T : Int} {M2 : Nat} {gg : Bool} {A Nn Sk : Nat} (h : Sy w wr K P M G X T M2 gg A Nn Sk) (b : Below wr.heap.size wr w') : Sy w w' K P M G X T M2 gg A Nn Sk :=
  ⟨h.x.below b, (b.cell (p := ⟨P, 0, none⟩) h.lt).trans h.g, h.mem.below b, Nat.lt_of_lt_of_le h.lt b.size⟩
theorem sy_end {w w12 w13 : World} {K : Cf} {M G P : Nat} {X : List Nat} {sw : Sw} {n T0 M2 : Nat} {gg : Bool} {A Nn Sk : Nat} (h : SwI w12 K M G P X sw T0 n w13) (is : Sx w w12 K.S K.a K.C K.D K.g K.k 1 M2 gg A Nn Sk) (z1 : (swRun K X sw n).1 = X) (z2 : (swRun K X sw n).2.gone = 0) (hb : w.heap.size + 2 ≤ P ∧ w.heap.size + 2 ≤ M ∧ w.heap.size + 2 ≤ G) : Sy w w13 K P M G X ((T0 + n : Nat) : Int) M2 gg A Nn Sk := by
  obtain ⟨c, i3, s3, _, _⟩ := h
  have g0 := i3.cell s3.gone
  have hm := i3.mem
  rw [z2] at g0
  rw [z1] at hm
  exact ⟨is.chg i3.ch (by simp; omega) i3.wt, g0, hm, lt_of_block i3.blk⟩
theorem sh_rd {w : World} {Q : Nat} {k m : Int} {g : Bool} {a n s : Int} (h : w.heap[Q]? = some (.cells #[.int .i64 k, .int .i64 m, .bool g, .int .i64 a, .int .i64 n, .int .i64 s, .slice none 0 0] 68 (0, 0))) : RdV w (some ⟨Q, 0, none⟩) 1 (fun _ => ⟨⟨k, m, g, a, n, s⟩, 0, fun _ => 0⟩) := by
  intro i hi
  obtain rfl : i = 0 := by omega
  refine ⟨Q, 0, rfl, lt_of_block h, ?_, none, 0, ?_, by show 0 < _; omega, fun j hj => absurd hj (by show ¬ j < 0; omega)⟩
  · simp [World.cell?, h]
  · simp [World.cell?, h]

set_option maxRecDepth 100000 in
set_option maxHeartbeats 16000000 in
theorem shades_law (s a c d g k : Int) (e : Nat) (he : e < 18446744073709551616) (kk mm : Int) (gg : Bool) (aa nn ss : Int) (w : World) (hw : WT w) :
    Calls Tryd.prog 5 #[.agg #[.int .i64 s, .int .i64 a, .int .i64 c, .int .i64 d, .int .i64 g, .int .i64 k], .int .u64 (e : Nat), .agg #[.int .i64 kk, .int .i64 mm, .bool gg, .int .i64 aa, .int .i64 nn, .int .i64 ss]] w fun r w' => r = .returned (.bool true) ∧ Below w.heap.size w w' := by
  have hw0 := hw.lt
  have cf := Fit_any s a c d g k
  have b1 := alloc_below w (.cells #[.int .i64 s, .int .i64 a, .int .i64 c, .int .i64 d, .int .i64 g, .int .i64 k] 23)
  have b2 := alloc_below (w.alloc (.cells #[.int .i64 s, .int .i64 a, .int .i64 c, .int .i64 d, .int .i64 g, .int .i64 k] 23)) (.cells #[.int .i64 kk, .int .i64 mm, .bool gg, .int .i64 aa, .int .i64 nn, .int .i64 ss] 43)
  have is : Sx w ((w.alloc (.cells #[.int .i64 s, .int .i64 a, .int .i64 c, .int .i64 d, .int .i64 g, .int .i64 k] 23)).alloc (.cells #[.int .i64 kk, .int .i64 mm, .bool gg, .int .i64 aa, .int .i64 nn, .int .i64 ss] 43)) s a c d g k kk mm gg aa nn ss := ⟨(cfg_new w s a c d g k).below b2, by have h := Hh.hd_new (w.alloc (.cells #[.int .i64 s, .int .i64 a, .int .i64 c, .int .i64 d, .int .i64 g, .int .i64 k] 23)) kk mm gg aa nn ss; rw [show (w.alloc (.cells #[.int .i64 s, .int .i64 a, .int .i64 c, .int .i64 d, .int .i64 g, .int .i64 k] 23)).heap.size = w.heap.size + 1 by simp] at h; exact h, seq_below b1 b2, (hw.below b1).below b2⟩
  clear b1 b2 hw
  unfold cs at cf
  go_enter Tryd.func5, Tryd.ntmps5
  go_upto_region 1 with fail
  generalize (w.alloc (.cells #[.int .i64 s, .int .i64 a, .int .i64 c, .int .i64 d, .int .i64 g, .int .i64 k] 23)).alloc (.cells #[.int .i64 kk, .int .i64 mm, .bool gg, .int .i64 aa, .int .i64 nn, .int .i64 ss] 43) = w1 at *
  obtain ⟨l0, l1, l2, l3, l4, l5⟩ := is.cfg.cells
  go_upto_region 2 with (first
    | (go_at_call 7; with_reducible refine (cf _).mono ?_; rintro e1 w2 ⟨⟨s', a', c', d', g', k', rfl, hs, ha, hc, hd, hg, hk⟩, b⟩; replace is := is.below b; clear l0 l1 l2 l3 l4 l5; obtain ⟨l0, l1, l2, l3, l4, l5⟩ := is.cfg.cells; have y0 := is.cfg.free 0; have y1 := is.cfg.free 1; have y2 := is.cfg.free 2; have y3 := is.cfg.free 3; have y4 := is.cfg.free 4; have y5 := is.cfg.free 5))
  have h3 := cfg_stored6 is.cfg s' a' c' d' g' k'
  have bel3 := below_stored6 is.bel (Nat.le_refl w.heap.size) (.int .i64 s') (.int .i64 a') (.int .i64 c') (.int .i64 d') (.int .i64 g') (.int .i64 k')
  have hw3 := wt_stored6 is.wt hw0 (.int .i64 s') (.int .i64 a') (.int .i64 c') (.int .i64 d') (.int .i64 g') (.int .i64 k')
  have hn1 : w.heap.size + 1 ≠ w.heap.size := by omega
  have hd3 := hd_apart (i := 5) (hd_apart (i := 4) (hd_apart (i := 3) (hd_apart (i := 2) (hd_apart (i := 1) (hd_apart (i := 0) is.hd hn1 (.int .i64 s')) hn1 (.int .i64 a')) hn1 (.int .i64 c')) hn1 (.int .i64 d')) hn1 (.int .i64 g')) hn1 (.int .i64 k')
  clear l0 l1 l2 l3 l4 l5 y0 y1 y2 y3 y4 y5 is cf
  generalize ((((((w2.setCell ⟨w.heap.size, 0, none⟩ (.int .i64 s')).setCell ⟨w.heap.size, 1, none⟩ (.int .i64 a')).setCell ⟨w.heap.size, 2, none⟩ (.int .i64 c')).setCell ⟨w.heap.size, 3, none⟩ (.int .i64 d')).setCell ⟨w.heap.size, 4, none⟩ (.int .i64 g')).setCell ⟨w.heap.size, 5, none⟩ (.int .i64 k')) = w3 at *
  have hr : rightB s' a' c' d' g' k' = true := rightB_iff.2 (by omega)
  obtain ⟨K, hK, rfl, rfl, rfl, rfl, rfl, rfl⟩ := Cf.of_right hr
  have hS12 : K.S ≤ 12 := by omega
  have hC1 : 1 ≤ K.C := by omega
  clear hs ha hc hd hg hk b hr w1 w2
  have hf := hd3.free 0
  have hc0 := hd3.cells.1
  go_upto_region 3 with fail
  have is : Sx w (w3.setCell ⟨w.heap.size + 1, 0, none⟩ (.int .i64 1)) K.S K.a K.C K.D K.g K.k 1 mm gg aa nn ss := ⟨cfg_stored h3 (by omega) _, Mm.heap_setCell_at (o := 0) hd3 (.int .i64 1), bel3.setCell (p := ⟨w.heap.size + 1, 0, none⟩) (by omega : w.heap.size ≤ w.heap.size + 1) _, hw3.set (by omega) _⟩
  clear hf hc0 h3 bel3 hw3 hd3 hn1
  generalize w3.setCell ⟨w.heap.size + 1, 0, none⟩ (.int .i64 1) = w4 at *
  obtain ⟨h0, h1, h2, h3, h4, h5⟩ := is.hd.cells
  have c26 := Hh.right_any 1 mm gg aa nn ss
  cases hrt : rightH 1 mm aa nn ss
  · rw [hrt] at c26
    clear hrt
    go_wp2_with (first
      | (go_at_call 26; with_reducible refine (c26 _).mono ?_; rintro r w5 ⟨rfl, b⟩; replace is := is.below b)
      | (go_at_call 8; with_reducible refine (awake_any _ is.wt).mono ?_; rintro r w6 ⟨rfl, b⟩; replace is := is.below b))
    go_ret
    exact ⟨rfl, is.bel⟩
  · rw [hrt] at c26
    obtain ⟨Kk, Mk, A, Nn, Sk, hH, e1, rfl, rfl, rfl, rfl⟩ := right_nat hrt
    obtain rfl : Kk = 1 := by omega
    have hW64 := Hh.wordOf_lt 1 Mk gg.toNat A Nn Sk (by omega) hH.m (Hh.bool_lt _) hH.a hH.n hH.s
    have c18 : ∀ w, Calls Tryd.prog 18 #[.agg #[.int .i64 1, .int .i64 (Mk : Nat), .bool gg, .int .i64 (A : Nat), .int .i64 (Nn : Nat), .int .i64 (Sk : Nat)]] w fun r w' => r = .returned (.int .u64 ((wordOf 1 Mk gg.toNat A Nn Sk : Nat) : Int)) ∧ Below w.heap.size w w' := Hh.rpack_any 1 Mk gg A Nn Sk (by omega) hH.m hH.a hH.n hH.s
    have c16 := marked_any hW64 he
    rw [mkd_word gg hH rfl] at c16
    clear e1
    by_cases hmk : Mk = Hh.blackN e
    · rw [decide_eq_true hmk] at c16
      clear hmk hrt
      go_wp2_with (first
        | (go_at_call 26; with_reducible refine (c26 _).mono ?_; rintro r w5 ⟨rfl, b⟩; replace is := is.below b; clear h0 h1 h2 h3 h4 h5; obtain ⟨h0, h1, h2, h3, h4, h5⟩ := is.hd.cells)
        | (go_at_call 18; with_reducible refine (c18 _).mono ?_; rintro r w5 ⟨rfl, b⟩; replace is := is.below b)
        | (go_at_call 16; with_reducible refine (c16 _).mono ?_; rintro r w5 ⟨rfl, b⟩; replace is := is.below b)
        | (go_at_call 8; with_reducible refine (awake_any _ is.wt).mono ?_; rintro r w6 ⟨rfl, b⟩; replace is := is.below b))
      go_ret
      exact ⟨rfl, is.bel⟩
    · rw [decide_eq_false hmk] at c16
      go_upto_region 5 with (first
        | (go_at_call 26; with_reducible refine (c26 _).mono ?_; rintro r w5 ⟨rfl, b⟩; replace is := is.below b; clear h0 h1 h2 h3 h4 h5; obtain ⟨h0, h1, h2, h3, h4, h5⟩ := is.hd.cells)
        | (go_at_call 18; with_reducible refine (c18 _).mono ?_; rintro r w5 ⟨rfl, b⟩; replace is := is.below b)
        | (go_at_call 16; with_reducible refine (c16 _).mono ?_; rintro r w5 ⟨rfl, b⟩; replace is := is.below b)
        | (go_at_call 8; with_reducible refine (awake_any _ is.wt).mono ?_; rintro r w6 ⟨rfl, b⟩; replace is := is.below b))
      clear h0 h1 h2 h3 h4 h5 c16 c26 b
      have n1 := new_obj w6 (.cells #[.int .i64 1, .int .i64 (Mk : Nat), .bool gg, .int .i64 (A : Nat), .int .i64 (Nn : Nat), .int .i64 (Sk : Nat), .slice none 0 0] 68)
      have b2 := alloc_below w6 (.cells #[.int .i64 1, .int .i64 (Mk : Nat), .bool gg, .int .i64 (A : Nat), .int .i64 (Nn : Nat), .int .i64 (Sk : Nat), .slice none 0 0] 68)
      have hi2 := is.below b2
      have c9 := laid_any hK (cap := 1) (rcap := 0) (vcap := 0) (sh_rd n1) (rdU_nil _ none (fun _ => 0)) (rdU_nil _ none (fun _ => 0)) (by omega) (by omega) (by omega) hi2.wt
      have HX := hid1 (fun t (ht : t < K.S) => sh_laid (Z := fun _ => ⟨⟨1, (Mk : Nat), gg, (A : Nat), (Nn : Nat), (Sk : Nat)⟩, 0, fun _ => 0⟩) hrt ht hC1 (fun _ => 0) (fun _ => 0))
      generalize laidX K 1 (fun _ => ⟨⟨1, (Mk : Nat), gg, (A : Nat), (Nn : Nat), (Sk : Nat)⟩, 0, fun _ => 0⟩) 0 (fun _ => 0) 0 (fun _ => 0) = X at *
      unfold Cf.cs at c9
      have hcw := lt_of_block is.hd
      obtain ⟨l0, l1, l2, l3, l4, l5⟩ := is.cfg.cells
      obtain ⟨h0, h1, h2, h3, h4, h5⟩ := is.hd.cells
      clear n1 hrt
      go_upto_region 6 with (first
        | (go_at_call 9; with_reducible refine c9.mono ?_; rintro r w7 ⟨R, rfl, hR, ft, hR1, b⟩; replace is := hi2.below b; have c10 := of_fit hK hR ft)
        | (go_at_call 10; with_reducible refine c10.mono ?_; rintro r w8 ⟨M, G, rfl, hm, hM, hG, b3⟩; replace is := is.below b3))
      have hb2 := b2.size
      have hbs := b.size
      clear l0 l1 l2 l3 l4 l5 h0 h1 h2 h3 h4 h5 c9 c10 hi2 hR
      have c11 := newSweep_yes hK e
      unfold Cf.cs at c11
      have hml := hm.lt
      obtain ⟨l0, l1, l2, l3, l4, l5⟩ := is.cfg.cells
      go_upto_region 7 with (go_at_call 11; with_reducible refine (c11 _).mono ?_; rintro r w9 ⟨P, rfl, nb⟩; replace is := is.below nb.bel; replace hm := hm.below nb.bel)
      clear l0 l1 l2 l3 l4 l5 c11
      have hPn := nb.new
      have hPM : P ≠ M ∧ P ≠ G := by omega
      have hpos : 0 < P ∧ 0 < M ∧ 0 < G := by omega
      have hbig : w.heap.size + 2 ≤ P ∧ w.heap.size + 2 ≤ M ∧ w.heap.size + 2 ≤ G := by omega
      have hW0 : X.getD (K.hd 0) 0 = wordOf 1 Mk gg.toNat A Nn Sk := by have h := HX.out 0 hK.s1; rw [if_pos rfl] at h; exact h
      have hcan : canS (wordOf 1 Mk gg.toNat A Nn Sk) e = true := by rw [can_word gg hH rfl]; exact decide_eq_true hmk
      have i0 := inA_new hm is.wt ft.len (by omega) nb.blk hPM hpos
      have q20 := sw_any hK i0 (sw0_at K e) (sw0_ok hK he) (by show 0 ≤ 1; omega) (by show 0 < _; omega) (by omega)
      rw [sh_first hW0 hcan] at q20
      have e20 : decide ((sh1 e (wordOf 1 Mk gg.toNat A Nn Sk)).pc = 2) = false := rfl
      simp only at q20
      rw [e20] at q20
      have hlt2 : Mk < 2 := hH.m
      clear nb i0 hm
      go_upto_region 9 with (go_at_call 20; with_reducible refine q20.mono ?_; rintro r w10 ⟨rfl, c1, i1, s1, _⟩)
      replace is := is.chg i1.ch (by simp; omega) i1.wt
      clear q20 e20
      obtain ⟨M2, hM2⟩ : ∃ M2, M2 = 1 - Mk := ⟨_, rfl⟩
      have hHb : Hr 1 M2 A Nn Sk := ⟨by omega, by omega, hH.a, hH.n, hH.s⟩
      have e9 : IntKind.i64.wrap (1 - (Mk : Int)) = (M2 : Int) := by rw [IntKind.wrap_i64]; omega
      have hM2b : M2 = Hh.blackN e := by have := Hh.blackN_lt e; omega
      have hwne : wordOf 1 M2 gg.toNat A Nn Sk ≠ wordOf 1 Mk gg.toNat A Nn Sk := by unfold wordOf; omega
      have hW2 := Hh.wordOf_lt 1 M2 gg.toNat A Nn Sk (by omega) hHb.m (Hh.bool_lt _) hHb.a hHb.n hHb.s
      have hcan2 : canS (wordOf 1 M2 gg.toNat A Nn Sk) e = false := by rw [can_word gg hHb rfl]; exact decide_eq_false (by omega)
      have hhv : hvW (wordOf 1 M2 gg.toNat A Nn Sk) = ⟨1, (M2 : Nat), gg, (A : Nat), (Nn : Nat), (Sk : Nat)⟩ := hvW_word gg hHb
      have c18b : ∀ w, Calls Tryd.prog 18 #[.agg #[.int .i64 1, .int .i64 (M2 : Nat), .bool gg, .int .i64 (A : Nat), .int .i64 (Nn : Nat), .int .i64 (Sk : Nat)]] w fun r w' => r = .returned (.int .u64 ((wordOf 1 M2 gg.toNat A Nn Sk : Nat) : Int)) ∧ Below w.heap.size w w' := Hh.rpack_any 1 M2 gg A Nn Sk (by omega) hHb.m hHb.a hHb.n hHb.s
      have c28 : ∀ w, Calls Tryd.prog 28 #[.agg #[.int .i64 (K.S : Nat), .int .i64 K.a, .int .i64 (K.C : Nat), .int .i64 (K.D : Nat), .int .i64 K.g, .int .i64 K.k], .agg #[.string ⟨#[104, 101, 97, 100, 101, 114]⟩, .int .i64 0, .int .i64 0]] w fun r w' => r = .returned (.int .i64 (K.hd 0 : Nat)) ∧ Below w.heap.size w w' := rheader_any hK 0 hK.s1
      clear hM2 hM2b
      generalize wordOf 1 M2 gg.toNat A Nn Sk = W2 at *
      generalize wordOf 1 Mk gg.toNat A Nn Sk = W1 at *
      have h1 := is.hd.cells.2.1
      have hf := is.hd.free 1
      have hl0 := K.hd_lt hK.s1
      go_upto_region 10 with fail
      have ch : Chg [w.heap.size + 1] w10 (w10.setCell ⟨w.heap.size + 1, 1, none⟩ (.int .i64 (M2 : Nat))) := (Chg.refl _ _).setCell (by simp) _
      have hwt : WT (w10.setCell ⟨w.heap.size + 1, 1, none⟩ (.int .i64 (M2 : Nat))) := is.wt.set (by omega) _
      have is2 : Sx w (w10.setCell ⟨w.heap.size + 1, 1, none⟩ (.int .i64 (M2 : Nat))) K.S K.a K.C K.D K.g K.k 1 M2 gg A Nn Sk := ⟨cfg_stored is.cfg (by omega) _, Mm.heap_setCell_at (o := 1) is.hd (.int .i64 (M2 : Nat)), is.bel.setCell (p := ⟨w.heap.size + 1, 1, none⟩) (by omega : w.heap.size ≤ w.heap.size + 1) _, hwt⟩
      have ia := inA_new (i1.mem.chg ch (by simp; omega) (by simp; omega)) hwt ft.len (by omega) (ch.at i1.blk (by simp; omega)) hPM hpos
      clear i1 is h1 hf ch hwt e9
      generalize w10.setCell ⟨w.heap.size + 1, 1, none⟩ (.int .i64 (M2 : Nat)) = w11 at *
      have htb := ia.tb
      have c27 : ∀ wr, InA w11 wr M G K.N X (0 + 1) P c1 49 → Calls Tryd.prog 27 #[.pointer (some ⟨M, 0, none⟩), .int .i64 (K.hd 0 : Nat), .int .u64 (W2 : Nat)] wr fun r w' => r = .returned (.bool true) ∧ InA w11 w' M G K.N (X.set (K.hd 0) W2) (0 + 1 + 1) P c1 49 ∧ Chg [M, G] wr w' := fun wr x =>
        (storeX x.mem (by rw [x.len]; exact hl0) hW2 htb).mono fun r w' ⟨h1, h2, h3⟩ => ⟨h1, x.only h2 h3 (by rw [List.length_set]; exact x.len) (by omega), Chg.of_only h3 (by simp) (by simp)⟩
      have HG : Hid (∀ i ∈ [M, G], w.heap.size + 2 ≤ i) := show ∀ i ∈ [M, G], w.heap.size + 2 ≤ i by simp; omega
      replace is2 := is2.below (Below.refl _ _).drew
      replace ia := ia.drew
      go_region_held (fun wq => (wq.cell? ⟨w.heap.size, 0, none⟩ = some (.int .i64 (K.S : Nat)) ∧ wq.cell? ⟨w.heap.size, 1, none⟩ = some (.int .i64 K.a) ∧ wq.cell? ⟨w.heap.size, 2, none⟩ = some (.int .i64 (K.C : Nat)) ∧ wq.cell? ⟨w.heap.size, 3, none⟩ = some (.int .i64 (K.D : Nat)) ∧ wq.cell? ⟨w.heap.size, 4, none⟩ = some (.int .i64 K.g) ∧ wq.cell? ⟨w.heap.size, 5, none⟩ = some (.int .i64 K.k)) ∧ (wq.cell? ⟨w.heap.size + 1, 0, none⟩ = some (.int .i64 1) ∧ wq.cell? ⟨w.heap.size + 1, 1, none⟩ = some (.int .i64 (M2 : Nat)) ∧ wq.cell? ⟨w.heap.size + 1, 2, none⟩ = some (.bool gg) ∧ wq.cell? ⟨w.heap.size + 1, 3, none⟩ = some (.int .i64 (A : Nat)) ∧ wq.cell? ⟨w.heap.size + 1, 4, none⟩ = some (.int .i64 (Nn : Nat)) ∧ wq.cell? ⟨w.heap.size + 1, 5, none⟩ = some (.int .i64 (Sk : Nat)))) (with_reducible exact And.intro is2.cfg.cells is2.hd.cells) (first
        | (go_at_call 28; with_reducible refine (c28 _).mono ?_; rintro r w12 ⟨rfl, b⟩; replace is2 := is2.below b; replace ia := ia.below b)
        | (go_at_call 18; with_reducible refine (c18b _).mono ?_; rintro r w12 ⟨rfl, b⟩; replace is2 := is2.below b; replace ia := ia.below b)
        | (go_at_call 27; with_reducible refine (c27 _ ia).mono ?_; rintro r w12 ⟨rfl, i2, ch⟩; replace is2 := is2.chg ch HG.out i2.wt; clear ia; have ia := i2; clear i2 ch))
      all_goals
        clear c27 c28 c18b
        have hX2a : (X.set (K.hd 0) W2).getD (K.hd 0) 0 = W2 := by rw [getD_set, if_pos ⟨rfl, by rw [ft.len]; exact hl0⟩]
        have hX2n : ∀ t, t < K.S → canS ((X.set (K.hd 0) W2).getD (K.hd t) 0) e = false := fun t ht => by
          rw [getD_set]
          by_cases h : t = 0
          · subst h
            rw [if_pos ⟨rfl, by rw [ft.len]; exact hl0⟩]
            exact hcan2
          · rw [if_neg (fun c => h (K.hd_inj c.1).symm), HX.out t ht, if_neg h]
            exact can_zero e
        have s0 : SwI w12 K M G P (X.set (K.hd 0) W2) (sh1 e W1) 2 0 w12 := ⟨c1, ia.restart, s1, ⟨he, by show 1 ≤ 2; omega, fun _ => hK.s1, rtW_lt hW64 e, by show 0 ≤ _; omega⟩, Nat.le_refl _⟩
        have q12 := sw_ends hK (most := 2 * K.S + 3) s0 (n := K.S + 1) (by omega) (by omega) (by omega) (by omega) (by show 0 < _; omega) (sh_pc hK hX2a hwne hX2n)
        obtain ⟨z1, z2⟩ := sh_end hK hX2a hwne hX2n
        rw [show ((2 * K.S + 3 : Nat) : Int) = 2 * (K.S : Int) + 3 by omega] at q12
        have e2 : IntKind.i64.wrap (2 * (K.S : Int)) = 2 * (K.S : Int) := by rw [IntKind.wrap_i64]; omega
        have e3 : IntKind.i64.wrap (2 * (K.S : Int) + 3) = 2 * (K.S : Int) + 3 := by rw [IntKind.wrap_i64]; omega
        have hft2 : Fitw K (X.set (K.hd 0) W2) := ft.set _ hW2
        have hh0 : hvW ((X.set (K.hd 0) W2).getD (K.hd 0) 0) = ⟨1, (M2 : Nat), gg, (A : Nat), (Nn : Nat), (Sk : Nat)⟩ := by rw [hX2a]; exact hhv
        have HSY := hid1 (fun (w13 : World) (h : SwI w12 K M G P (X.set (K.hd 0) W2) (sh1 e W1) 2 (K.S + 1) w13) => sy_end h is2 z1 z2 hbig)
        generalize X.set (K.hd 0) W2 = X2 at *
        clear s0 hX2a hX2n z1 z2 ia s1 hcan2 hwne
        obtain ⟨l0, l1, l2, l3, l4, l5⟩ := is2.cfg.cells
        go_upto_region 12 with (go_at_call 12; with_reducible refine q12.mono ?_; rintro r w13 ⟨rfl, s13⟩; have sy := HSY.out _ s13; clear s13)
        clear l0 l1 l2 l3 l4 l5 q12 HSY is2 e2 e3
        have hN := hK.N_b
        have c13 : ∀ wr, MemX wr M G X2 ((2 + (K.S + 1) : Nat) : Int) → _ := fun wr h => wordsX h (n := K.N) hft2.len (by omega)
        have HH22 := hid1 (fun (wB : World) (V : Nat) (hV : IsWords wB V X2) => heads0 hK (cap := K.N) hft2.len hft2.at (RdW.of_words hV) hh0)
        have HC := hid1 (fun (wq : World) (h : Sy w wq K P M G X2 ((2 + (K.S + 1) : Nat) : Int) M2 gg A Nn Sk) => And.intro h.g (And.intro h.x.cfg.cells h.x.hd.cells))
        have hS0 : (0 : Int) < (K.S : Int) := by have := hK.s1; omega
        have hSn : ¬ K.S = 0 := by omega
        replace sy := sy.below (Below.refl _ _).drew
        unfold Cf.cs at HH22
        simp only at HH22
        have sy0 := HC.out _ sy
        refine wp_region_held_drew (S := fun wq => wq.cell? ⟨P, 0, none⟩ = some (.int .i64 0) ∧ (wq.cell? ⟨w.heap.size, 0, none⟩ = some (.int .i64 (K.S : Nat)) ∧ wq.cell? ⟨w.heap.size, 1, none⟩ = some (.int .i64 K.a) ∧ wq.cell? ⟨w.heap.size, 2, none⟩ = some (.int .i64 (K.C : Nat)) ∧ wq.cell? ⟨w.heap.size, 3, none⟩ = some (.int .i64 (K.D : Nat)) ∧ wq.cell? ⟨w.heap.size, 4, none⟩ = some (.int .i64 K.g) ∧ wq.cell? ⟨w.heap.size, 5, none⟩ = some (.int .i64 K.k)) ∧ (wq.cell? ⟨w.heap.size + 1, 0, none⟩ = some (.int .i64 1) ∧ wq.cell? ⟨w.heap.size + 1, 1, none⟩ = some (.int .i64 (M2 : Nat)) ∧ wq.cell? ⟨w.heap.size + 1, 2, none⟩ = some (.bool gg) ∧ wq.cell? ⟨w.heap.size + 1, 3, none⟩ = some (.int .i64 (A : Nat)) ∧ wq.cell? ⟨w.heap.size + 1, 4, none⟩ = some (.int .i64 (Nn : Nat)) ∧ wq.cell? ⟨w.heap.size + 1, 5, none⟩ = some (.int .i64 (Sk : Nat)))) (by kernel_rfl) sy0 (fun hS1 => ?_)
        clear sy0
        refine wpAnyH_take (i := 0) (oi := { dst := some 66, op := Go.Op.move (Go.Operand.tmp 9), type := 4, pos := "law.go:160", after := #[], guard := none }) (v := .bool true) rfl (by kernel_rfl) (by kernel_rfl) (by kernel_rfl) (fun _ _ _ h => h) (Or.inl ⟨by rfl, fun w hSw => by (try dsimp only at hSw); go_simp⟩) hS1 ?_
        simp only [Act.put, List.setIfInBounds_toArray, List.set_cons_zero, List.set_cons_succ]
        refine wpAnyH_take (i := 1) (oi := { dst := some 67, op := Go.Op.move (Go.Operand.tmp 66), type := 4, pos := "law.go:160", after := #[{ on := 0, ground := Go.Ground.data }], guard := none }) (v := .bool true) rfl (by kernel_rfl) (by kernel_rfl) (by kernel_rfl) (fun _ _ _ h => h) (Or.inl ⟨by rfl, fun w hSw => by (try dsimp only at hSw); go_simp⟩) hS1 ?_
        simp only [Act.put, List.setIfInBounds_toArray, List.set_cons_zero, List.set_cons_succ]
        refine wpAnyH_take (i := 2) (oi := { dst := some 68, op := Go.Op.move (Go.Operand.tmp 8), type := 32, pos := "law.go:160", after := #[{ on := 1, ground := Go.Ground.guard }], guard := some (1, true) }) (v := .pointer (some ⟨P, 0, none⟩)) rfl (by kernel_rfl) (by kernel_rfl) (by kernel_rfl) (fun _ _ _ h => h) (Or.inl ⟨by rfl, fun w hSw => by (try dsimp only at hSw); go_simp⟩) hS1 ?_
        simp only [Act.put, List.setIfInBounds_toArray, List.set_cons_zero, List.set_cons_succ]
        refine wpAnyH_take (i := 3) (oi := { dst := some 69, op := Go.Op.nilCheck (Go.Operand.tmp 68), type := 0, pos := "law.go:160", after := #[{ on := 2, ground := Go.Ground.data }, { on := 1, ground := Go.Ground.guard }], guard := some (1, true) }) (v := .pointer (some ⟨P, 0, none⟩)) rfl (by kernel_rfl) (by kernel_rfl) (by kernel_rfl) (fun _ _ _ h => h) (Or.inl ⟨by rfl, fun w hSw => by (try dsimp only at hSw); go_simp⟩) hS1 ?_
        simp only [Act.put, List.setIfInBounds_toArray, List.set_cons_zero, List.set_cons_succ]
        refine wpAnyH_take (i := 4) (oi := { dst := some 70, op := Go.Op.fieldAddr 49 (Go.Operand.tmp 69) 0, type := 0, pos := "law.go:160", after := #[{ on := 3, ground := Go.Ground.data }, { on := 1, ground := Go.Ground.guard }], guard := some (1, true) }) (v := .pointer (some ⟨P, 0, none⟩)) rfl (by kernel_rfl) (by kernel_rfl) (by kernel_rfl) (fun _ _ _ h => h) (Or.inl ⟨by rfl, fun w hSw => by (try dsimp only at hSw); go_simp⟩) hS1 ?_
        simp only [Act.put, List.setIfInBounds_toArray, List.set_cons_zero, List.set_cons_succ]
        refine wpAnyH_take (i := 5) (oi := { dst := some 71, op := Go.Op.load 3 (Go.Operand.tmp 70), type := 3, pos := "law.go:160", after := #[{ on := 4, ground := Go.Ground.data }, { on := 1, ground := Go.Ground.guard }], guard := some (1, true) }) (v := .int .i64 0) rfl (by kernel_rfl) (by kernel_rfl) (by kernel_rfl) (fun _ _ _ h => h) (Or.inl ⟨by rfl, fun w hSw => by (try dsimp only at hSw); go_simp⟩) hS1 ?_
        simp only [Act.put, List.setIfInBounds_toArray, List.set_cons_zero, List.set_cons_succ]
        refine wpAnyH_take (i := 6) (oi := { dst := some 72, op := Go.Op.binOp Go.BinOp.eql 3 (Go.Operand.tmp 71) (Go.Operand.const (Go.Value.int Go.IntKind.i64 0)) 3, type := 4, pos := "law.go:160", after := #[{ on := 5, ground := Go.Ground.data }, { on := 1, ground := Go.Ground.guard }], guard := some (1, true) }) (v := .bool true) rfl (by kernel_rfl) (by kernel_rfl) (by kernel_rfl) (fun _ _ _ h => h) (Or.inl ⟨by rfl, fun w hSw => by (try dsimp only at hSw); go_simp⟩) hS1 ?_
        simp only [Act.put, List.setIfInBounds_toArray, List.set_cons_zero, List.set_cons_succ]
        refine wpAnyH_take (i := 7) (oi := { dst := some 73, op := Go.Op.pick (Go.Operand.tmp 67) (Go.Operand.tmp 72) (Go.Operand.const (Go.Value.bool false)), type := 4, pos := "law.go:160", after := #[{ on := 1, ground := Go.Ground.data }, { on := 6, ground := Go.Ground.data }], guard := none }) (v := .bool true) rfl (by kernel_rfl) (by kernel_rfl) (by kernel_rfl) (fun _ _ _ h => h) (Or.inl ⟨by rfl, fun w hSw => by (try dsimp only at hSw); go_simp⟩) hS1 ?_
        simp only [Act.put, List.setIfInBounds_toArray, List.set_cons_zero, List.set_cons_succ]
        refine wpAnyH_take (i := 8) (oi := { dst := some 74, op := Go.Op.move (Go.Operand.tmp 73), type := 4, pos := "law.go:160", after := #[{ on := 7, ground := Go.Ground.data }, { on := 1, ground := Go.Ground.chain }], guard := none }) (v := .bool true) rfl (by kernel_rfl) (by kernel_rfl) (by kernel_rfl) (fun _ _ _ h => h) (Or.inl ⟨by rfl, fun w hSw => by (try dsimp only at hSw); go_simp⟩) hS1 ?_
        simp only [Act.put, List.setIfInBounds_toArray, List.set_cons_zero, List.set_cons_succ]
        refine wpAnyH_take (i := 9) (oi := { dst := some 75, op := Go.Op.load 23 (Go.Operand.tmp 3), type := 23, pos := "law.go:160", after := #[{ on := 8, ground := Go.Ground.guard }], guard := some (8, true) }) (v := .agg #[.int .i64 (K.S : Nat), .int .i64 K.a, .int .i64 (K.C : Nat), .int .i64 (K.D : Nat), .int .i64 K.g, .int .i64 K.k]) rfl (by kernel_rfl) (by kernel_rfl) (by kernel_rfl) (fun _ _ _ h => h) (Or.inl ⟨by rfl, fun w hSw => by (try dsimp only at hSw); go_simp⟩) hS1 ?_
        simp only [Act.put, List.setIfInBounds_toArray, List.set_cons_zero, List.set_cons_succ]
        refine wpAnyH_take (i := 10) (oi := { dst := some 76, op := Go.Op.move (Go.Operand.tmp 7), type := 30, pos := "law.go:160", after := #[{ on := 8, ground := Go.Ground.guard }], guard := some (8, true) }) (v := .pointer (some ⟨M, 0, none⟩)) rfl (by kernel_rfl) (by kernel_rfl) (by kernel_rfl) (fun _ _ _ h => h) (Or.inl ⟨by rfl, fun w hSw => by (try dsimp only at hSw); go_simp⟩) hS1 ?_
        simp only [Act.put, List.setIfInBounds_toArray, List.set_cons_zero, List.set_cons_succ]
        refine wpAnyH_take (i := 15) (oi := { dst := some 81, op := Go.Op.load 43 (Go.Operand.tmp 5), type := 43, pos := "law.go:160", after := #[{ on := 8, ground := Go.Ground.guard }], guard := some (8, true) }) (v := .agg #[.int .i64 1, .int .i64 (M2 : Nat), .bool gg, .int .i64 (A : Nat), .int .i64 (Nn : Nat), .int .i64 (Sk : Nat)]) rfl (by kernel_rfl) (by kernel_rfl) (by kernel_rfl) (fun _ _ _ h => h) (Or.inl ⟨by rfl, fun w hSw => by (try dsimp only at hSw); go_simp⟩) hS1 ?_
        simp only [Act.put, List.setIfInBounds_toArray, List.set_cons_zero, List.set_cons_succ]
        refine wpAnyH_ready (rs := [11]) (by kernel_rfl) (by simp) (AllReadyH.cons (o := { dst := some 77, op := Go.Op.call { callee := Go.Callee.value (Go.Operand.func 13), args := #[Go.Operand.tmp 76], argTypes := #[30] }, type := 28, pos := "law.go:160", after := #[{ on := 10, ground := Go.Ground.data }, { on := 8, ground := Go.Ground.chain }, { on := 8, ground := Go.Ground.guard }], guard := some (8, true) }) rfl (fun K hK => ?_) AllReadyH.nil)
        go_simp
        go_at_call 13
        with_reducible refine (c13 _ sy.mem).mono ?_
        rintro r wB ⟨V, rfl, hV, hV1, b⟩
        (try simp only [])
        replace sy := sy.below b
        have c22 := HH22.out wB V hV
        clear b hV
        refine hK.out _ _ (HC.out _ sy) (fun hS1 => ?_)
        (try simp only [Act.put, List.setIfInBounds_toArray, List.set_cons_zero, List.set_cons_succ])
        clear hK K
        refine wpAnyH_ready (rs := [12]) (by kernel_rfl) (by simp) (AllReadyH.cons (o := { dst := some 78, op := Go.Op.call { callee := Go.Callee.value (Go.Operand.func 22), args := #[Go.Operand.tmp 75, Go.Operand.tmp 77], argTypes := #[23, 28] }, type := 54, pos := "law.go:160", after := #[{ on := 9, ground := Go.Ground.data }, { on := 11, ground := Go.Ground.data }, { on := 11, ground := Go.Ground.chain }, { on := 8, ground := Go.Ground.guard }], guard := some (8, true) }) rfl (fun K hK => ?_) AllReadyH.nil)
        go_simp
        go_at_call 22
        with_reducible refine c22.mono ?_
        rintro r wC ⟨Q, qcap, rfl, ⟨q0, q1, q2, q3, q4, q5⟩, b⟩
        (try simp only [])
        replace sy := sy.below b
        refine hK.out _ _ (HC.out _ sy) (fun hS1 => ?_)
        (try simp only [Act.put, List.setIfInBounds_toArray, List.set_cons_zero, List.set_cons_succ])
        clear hK K
        refine wpAnyH_take (i := 13) (oi := { dst := some 79, op := Go.Op.indexAddr 54 (Go.Operand.tmp 78) (Go.Operand.const (Go.Value.int Go.IntKind.i64 0)), type := 0, pos := "law.go:160", after := #[{ on := 12, ground := Go.Ground.data }, { on := 8, ground := Go.Ground.guard }], guard := some (8, true) }) (v := .pointer (some ⟨Q, 0, none⟩)) rfl (by kernel_rfl) (by kernel_rfl) (by kernel_rfl) (fun _ _ _ h => h) (Or.inl ⟨by rfl, fun w hSw => by (try dsimp only at hSw); go_simp⟩) hS1 ?_
        simp only [Act.put, List.setIfInBounds_toArray, List.set_cons_zero, List.set_cons_succ]
        refine wpAnyH_ready (rs := [14]) (by kernel_rfl) (by simp) (AllReadyH.cons (o := { dst := some 80, op := Go.Op.load 43 (Go.Operand.tmp 79), type := 43, pos := "law.go:160", after := #[{ on := 13, ground := Go.Ground.data }, { on := 8, ground := Go.Ground.guard }], guard := some (8, true) }) rfl (fun K hK => ?_) AllReadyH.nil)
        go_simp
        refine hK.out _ _ (HC.out _ sy) (fun hS1 => ?_)
        (try simp only [Act.put, List.setIfInBounds_toArray, List.set_cons_zero, List.set_cons_succ])
        clear hK K q0 q1 q2 q3 q4 q5
        refine wpAnyH_take (i := 16) (oi := { dst := some 82, op := Go.Op.binOp Go.BinOp.eql 43 (Go.Operand.tmp 80) (Go.Operand.tmp 81) 43, type := 4, pos := "law.go:160", after := #[{ on := 14, ground := Go.Ground.data }, { on := 15, ground := Go.Ground.data }, { on := 8, ground := Go.Ground.guard }], guard := some (8, true) }) (v := .bool true) rfl (by kernel_rfl) (by kernel_rfl) (by kernel_rfl) (fun _ _ _ h => h) (Or.inl ⟨by rfl, fun w hSw => by (try dsimp only at hSw); go_simp⟩) hS1 ?_
        simp only [Act.put, List.setIfInBounds_toArray, List.set_cons_zero, List.set_cons_succ]
        refine wpAnyH_take (i := 17) (oi := { dst := some 83, op := Go.Op.pick (Go.Operand.tmp 74) (Go.Operand.tmp 82) (Go.Operand.const (Go.Value.bool false)), type := 4, pos := "law.go:160", after := #[{ on := 8, ground := Go.Ground.data }, { on := 16, ground := Go.Ground.data }], guard := none }) (v := .bool true) rfl (by kernel_rfl) (by kernel_rfl) (by kernel_rfl) (fun _ _ _ h => h) (Or.inl ⟨by rfl, fun w hSw => by (try dsimp only at hSw); go_simp⟩) hS1 ?_
        simp only [Act.put, List.setIfInBounds_toArray, List.set_cons_zero, List.set_cons_succ]
        refine wpAnyH_take (i := 18) (oi := { dst := some 6, op := Go.Op.assign (Go.Operand.tmp 83), type := 4, pos := "law.go:160", after := #[{ on := 17, ground := Go.Ground.data }, { on := 12, ground := Go.Ground.chain }, { on := 0, ground := Go.Ground.phase }, { on := 1, ground := Go.Ground.phase }, { on := 2, ground := Go.Ground.phase }, { on := 3, ground := Go.Ground.phase }, { on := 4, ground := Go.Ground.phase }, { on := 5, ground := Go.Ground.phase }, { on := 6, ground := Go.Ground.phase }, { on := 7, ground := Go.Ground.phase }, { on := 8, ground := Go.Ground.phase }, { on := 9, ground := Go.Ground.phase }, { on := 10, ground := Go.Ground.phase }, { on := 11, ground := Go.Ground.phase }, { on := 12, ground := Go.Ground.phase }, { on := 13, ground := Go.Ground.phase }, { on := 14, ground := Go.Ground.phase }, { on := 15, ground := Go.Ground.phase }, { on := 16, ground := Go.Ground.phase }, { on := 17, ground := Go.Ground.phase }], guard := none }) (v := .bool true) rfl (by kernel_rfl) (by kernel_rfl) (by kernel_rfl) (fun _ _ _ h => h) (Or.inl ⟨by rfl, fun w hSw => by (try dsimp only at hSw); go_simp⟩) hS1 ?_
        simp only [Act.put, List.setIfInBounds_toArray, List.set_cons_zero, List.set_cons_succ]
        refine wpAnyH_done (by kernel_rfl) ?_ _
        go_wp2
        go_ret
        exact ⟨rfl, sy.x.bel⟩
end Go.Proofs.YteechgmjaagbmabDoor
