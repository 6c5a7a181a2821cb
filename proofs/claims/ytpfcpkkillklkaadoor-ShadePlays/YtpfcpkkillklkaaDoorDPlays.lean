/- However many shade whichever slots: the law, walked. -/
import Derived.Test.YtpfcpkkillklkaaDoorDPb
import Derived.Test.YtpfcpkkillklkaaDoorDAwake
import Derived.Deep.RegionHeld3
import Derived.Deep.DrawnRows
import Derived.BigQuiet
namespace Go.Proofs.YtpfcpkkillklkaaDoor
open Go.RowKit
open Mm (IsMem IsWords MS touched Only zeroMS)
open Hh (WT okW whiteH wordOf Hr blackN usedK rightH IsHd)

theorem info34 : (Tryd.prog.info? 34).map (fun i => (i.zero, i.size, i.bytes)) = some (some (.pointer none), 1, 8) := by kernel_rfl
/-- Whole numbers in a slice that is only read. -/
def RdI (w : World) (ad : Option Addr) (n : Nat) (Z : Nat → Int) : Prop := ∀ i, i < n → ∃ b off, ad = some ⟨b, off, none⟩ ∧ b < w.heap.size ∧ w.cell? ⟨b, off + i, none⟩ = some (.int .i64 (Z i))
theorem rdH_below {w w' : World} {ad : Option Addr} {n : Nat} {H : Nat → Hv} (h : RdH w ad n H) (b : Below w.heap.size w w') : RdH w' ad n H := fun i hi => by
  obtain ⟨c, off, h1, h2, q0, q1, q2, q3, q4, q5⟩ := h i hi
  have hs := b.size
  exact ⟨c, off, h1, by omega, (b.cell (p := ⟨c, off + i * 6, none⟩) h2).trans q0, (b.cell (p := ⟨c, off + i * 6 + 1, none⟩) h2).trans q1, (b.cell (p := ⟨c, off + i * 6 + 2, none⟩) h2).trans q2, (b.cell (p := ⟨c, off + i * 6 + 3, none⟩) h2).trans q3, (b.cell (p := ⟨c, off + i * 6 + 4, none⟩) h2).trans q4, (b.cell (p := ⟨c, off + i * 6 + 5, none⟩) h2).trans q5⟩

theorem hd_free {w : World} {P : Nat} {k m : Int} {g : Bool} {a n s : Int} (h : IsHd w P k m g a n s) (i : Nat) : w.frozen? ⟨P, i, none⟩ = false := by
  have h' : w.heap[P]? = _ := h
  simp [World.frozen?, h']
theorem cell_below {w w' : World} {b o : Nat} {v : Value} (h : w.cell? ⟨b, o, none⟩ = some v) (k : Below w.heap.size w w') : w'.cell? ⟨b, o, none⟩ = some v := (k.cell (p := ⟨b, o, none⟩) (Hh.lt_of_cell h)).trans h
theorem cell_old {w w' : World} {b o : Nat} {v : Value} (k : Below w.heap.size w w') (hb : b < w.heap.size) (h : w.cell? ⟨b, o, none⟩ = some v) : w'.cell? ⟨b, o, none⟩ = some v := (k.cell (p := ⟨b, o, none⟩) hb).trans h
theorem filled_hid {K : Cf} (hK : K.Ok) {ad : Option Addr} {n cap : Nat} {H : Nat → Hv} (e : Nat) (he : e < 18446744073709551616) {w : World} (hr : RdH w ad n H) (hw : WT w) :
    Calls Tryd.prog 5 #[.agg K.cs, .slice ad n cap, .int .u64 (e : Nat)] w fun r w' => (∃ M G X, r = .returned (.pointer (some ⟨M, 0, none⟩)) ∧ MemX w' M G X 0 ∧ X.length = K.N ∧ Hid (X.getD 2 0 = grN K X K.S ∧ ∀ s, s < K.S → grayW (X.getD (K.hd s) 0) = true → canS (X.getD (K.hd s) 0) e = false) ∧ w.heap.size ≤ M ∧ w.heap.size ≤ G) ∧ Below w.heap.size w w' :=
  (filled_any hK e he hr hw).mono fun _ _ ⟨⟨M, G, X, h1, h2, h3, h4, h5, h6, h7⟩, hb⟩ => ⟨⟨M, G, X, h1, h2, h3, ⟨h4, h5⟩, h6, h7⟩, hb⟩
set_option maxRecDepth 20000 in
set_option maxHeartbeats 8000000 in
theorem plays_law (s a c d g k : Int) {adH adS adP : Option Addr} {nH capH n capS nP capP : Nat} {H : Nat → Hv} {Z Q : Nat → Int} (e : Nat) (he : e < 18446744073709551616) (hnP : nP ≤ maxLen) (w : World) (hw : WT w) (hH : RdH w adH nH H) (hZ : RdI w adS n Z) (hQ : RdI w adP nP Q) :
    Calls Tryd.prog 3 #[.agg (cs s a c d g k), .slice adH nH capH, .int .u64 (e : Nat), .slice adS n capS, .slice adP nP capP] w fun r w' => r = .returned (.bool true) ∧ Below w.heap.size w w' := by
  have hpos := hw.lt
  have cf := Fit_any s a c d g k
  have b0 := alloc_below w (.cells #[.int .i64 s, .int .i64 a, .int .i64 c, .int .i64 d, .int .i64 g, .int .i64 k] 23)
  have hh := cfg_new w s a c d g k
  replace hw := hw.below b0
  go_enter Tryd.func3, Tryd.ntmps3
  go_upto_region 1 with fail
  generalize w.alloc (.cells #[.int .i64 s, .int .i64 a, .int .i64 c, .int .i64 d, .int .i64 g, .int .i64 k] 23) = w1 at *
  have bel := b0
  clear b0
  obtain ⟨l0, l1, l2, l3, l4, l5⟩ := hh.cells
  go_upto_region 2 with (go_at_call 4; refine (cf _).mono ?_; rintro r w2 ⟨⟨s', a', c', d', g', k', rfl, hs1, ha1, hc1, hd1, hg1, hk1⟩, b⟩; replace bel := seq_below bel b; replace hh := hh.below b; replace hw := hw.below b; obtain ⟨l0, l1, l2, l3, l4, l5⟩ := hh.cells; have y0 := hh.free 0; have y1 := hh.free 1; have y2 := hh.free 2; have y3 := hh.free 3; have y4 := hh.free 4; have y5 := hh.free 5)
  have h3 := cfg_stored6 hh s' a' c' d' g' k'
  have bel3 := below_stored6 bel (Nat.le_refl w.heap.size) (.int .i64 s') (.int .i64 a') (.int .i64 c') (.int .i64 d') (.int .i64 g') (.int .i64 k')
  have hw3 := Hh.WT.set (o := 5) (Hh.WT.set (o := 4) (Hh.WT.set (o := 3) (Hh.WT.set (o := 2) (Hh.WT.set (o := 1) (Hh.WT.set (o := 0) hw hpos (.int .i64 s')) hpos (.int .i64 a')) hpos (.int .i64 c')) hpos (.int .i64 d')) hpos (.int .i64 g')) hpos (.int .i64 k')
  clear l0 l1 l2 l3 l4 l5 y0 y1 y2 y3 y4 y5 hh cf hw bel
  generalize ((((((w2.setCell ⟨w.heap.size, 0, none⟩ (.int .i64 s')).setCell ⟨w.heap.size, 1, none⟩ (.int .i64 a')).setCell ⟨w.heap.size, 2, none⟩ (.int .i64 c')).setCell ⟨w.heap.size, 3, none⟩ (.int .i64 d')).setCell ⟨w.heap.size, 4, none⟩ (.int .i64 g')).setCell ⟨w.heap.size, 5, none⟩ (.int .i64 k')) = w3 at *
  have hr : rightB s' a' c' d' g' k' = true := rightB_iff.2 (by omega)
  clear ha1 hd1 hg1 hk1
  obtain ⟨K, hK, rfl, rfl, rfl, rfl, rfl, rfl⟩ := Cf.of_right hr
  have hS12 : 1 ≤ K.S ∧ K.S ≤ 12 := by omega
  clear hs1 hc1 b hr
  have c8 := filled_hid hK (cap := capH) e he (rdH_below hH bel3) hw3
  have hlt5 := h3.lt
  obtain ⟨l0, l1, l2, l3, l4, l5⟩ := h3.cells
  go_upto_region 3 with (go_at_call 5; with_reducible refine c8.mono ?_; rintro r w6 ⟨⟨M, G, Y, rfl, hM, hYl, hYh, hMs, hGs⟩, hb⟩)
  have ds : Ds w w6 K M G Y 0 := ⟨hM, h3.below hb, seq_below bel3 hb, hw3.below hb, by omega, by omega⟩
  clear hM h3 hb bel3 hw3 hMs hGs c8 hlt5 l0 l1 l2 l3 l4 l5
  clear hH
  by_cases hn10 : n ≤ 10
  case neg =>
    go_wp2_with (go_at_call 6; with_reducible refine (awake_any _ ds.wt).mono ?_; rintro r w8 ⟨rfl, hb⟩; replace ds := ds.below hb)
    go_ret
    exact ⟨rfl, ds.bel⟩
  have hN := hK.N_b
  go_upto_region 5 with (go_at_call 6; with_reducible refine (awake_any _ ds.wt).mono ?_; rintro r w8 ⟨rfl, hb⟩; replace ds := ds.below hb; clear hb)
  have q2 := wordsX ds.mem hYl (by omega)
  go_upto_region 6 with (go_at_call 7; with_reducible refine q2.mono ?_; rintro r w9 ⟨R, rfl, hwd, hR, hbl⟩; have hml := ds.mem.lt; replace ds := ds.below hbl)
  clear q2 hbl
  obtain ⟨i0, hi, hz0, hz1, hz2⟩ := info_parts info34
  obtain ⟨kk, hkk⟩ : ∃ kk : Nat → Nat, ∀ i, kk i = (IntKind.u64.wrap (Z i) % (K.S : Int)).toNat := ⟨_, fun _ => rfl⟩
  have hkS : ∀ i, kk i < K.S := fun i => by
    have q1 := Int.emod_nonneg (IntKind.u64.wrap (Z i)) (show (K.S : Int) ≠ 0 by omega)
    have q2 := Int.emod_lt_of_pos (IntKind.u64.wrap (Z i)) (show (0 : Int) < K.S by omega)
    rw [hkk]; omega
  have hkm : ∀ i, (IntKind.u64.wrap (Z i)).tmod (K.S : Int) = (kk i : Int) := fun i => by
    have hu0 : 0 ≤ IntKind.u64.wrap (Z i) := by rw [IntKind.wrap_u64]; omega
    have q1 := Int.emod_nonneg (IntKind.u64.wrap (Z i)) (show (K.S : Int) ≠ 0 by omega)
    rw [Int.tmod_eq_emod_of_nonneg hu0, hkk]; omega
  clear hkk
  have hRl : R < w9.heap.size := lt_of_block (show w9.heap[R]? = _ from hwd)
  have bd0 : Bd w w9 K e M G R w9.heap.size Y kk 0 (.slice none 0 0) (fun _ => 0) := ⟨ds, hwd, fun i hi => by omega, fun i hi => by omega, fun i i' hi => by omega, World.ownsRow_nil _ _ _ _, by have := ds.mem.lt; have := ds.lt; omega⟩
  clear hwd hR hml ds
  generalize hbase : w9.heap.size = base at *
  clear hbase hRl
  go_wp2
  go_loopw [13, 14] (fun v i wr => ∃ (j : Nat) (ps : Nat → Nat), j ≤ n ∧ i = .int .i64 j ∧ Bd w wr K e M G R base Y kk j v ps) (fun _ i _ => n - (intOf i).toNat)
  case atStart => exact ⟨0, _, Nat.zero_le _, rfl, bd0⟩
  case round =>
    clear bd0
    obtain ⟨j, ps, hj, rfl, bd⟩ := hrel
    by_cases hjn : j < n
    · as_aux_lemma =>
      obtain ⟨b, off, rfl, hbl, qz0⟩ := hZ j hjn
      have qz := cell_old bd.ds.bel hbl qz0
      have c8 := newShade_yes hK (kk j) (hkS j) e
      have hm := hkm j
      have hKS : IntKind.u64.wrap (K.S : Int) = (K.S : Int) := by rw [IntKind.wrap_u64]; omega
      have hne : IntKind.u64.wrap (K.S : Int) ≠ 0 := by rw [hKS]; omega
      rw [← hKS] at hm
      clear hKS
      have hw1 : IntKind.i64.wrap (kk j : Int) = kk j := by have := hkS j; rw [IntKind.wrap_i64]; omega
      have hown0 := bd.own
      have h63 : j + 1 ≤ maxLen := by unfold maxLen; omega
      have hby : (j + 1) * 8 ≤ 140737488355328 := by omega
      go_upto_region 10 with fail
      clear qz
      replace bd := bd.drew
      go_region_held3 (fun wq => (wq.cell? ⟨w.heap.size, 0, none⟩ = some (.int .i64 (K.S : Nat)) ∧ wq.cell? ⟨w.heap.size, 1, none⟩ = some (.int .i64 K.a) ∧ wq.cell? ⟨w.heap.size, 2, none⟩ = some (.int .i64 (K.C : Nat)) ∧ wq.cell? ⟨w.heap.size, 3, none⟩ = some (.int .i64 (K.D : Nat)) ∧ wq.cell? ⟨w.heap.size, 4, none⟩ = some (.int .i64 K.g) ∧ wq.cell? ⟨w.heap.size, 5, none⟩ = some (.int .i64 K.k)) ∧ wq.cell? ⟨b, off + j, none⟩ = some (.int .i64 (Z j)))
        (first
          | with_reducible exact ⟨bd1.ds.cfg.cells, cell_old bd1.ds.bel hbl qz0⟩
          | with_reducible exact ⟨bd.ds.cfg.cells, cell_old bd.ds.bel hbl qz0⟩
          | with_reducible exact ⟨(bd.below (alloc_below _ _)).ds.cfg.cells, cell_old (bd.below (alloc_below _ _)).ds.bel hbl qz0⟩)
        (first
          | (go_at_call 8; with_reducible refine (c8 _).mono ?_; rintro r w10 ⟨P, rfl, hp, hP, hb⟩; have hlt0 := bd.hb; have hsh := fun i hi => (bd.shd i hi).lt; replace bd := bd.below hb)
          | (refine step_append_lies _ (by rfl) _ _ _ (by rfl) base 34 i0 _ 1 8 Tryd.underlying33 hi hz0 hz1 hz2 rfl (by decide) _ j (ptrs ps j) (by rfl) (bd.own.alloc _) ⟨_, 0, none⟩ 1 1 [.pointer (some ⟨P, 0, none⟩)] (by rfl) (by rfl) (World.news_of_block (cs := #[.pointer (some ⟨P, 0, none⟩)]) (t := 34) (fr := (0, 0)) (heap_alloc_new _ _)) (by simp [Value.oneCell']) (by omega) h63 hby (by have := bd.hb; simp; omega) (w10.heap.size + 1) (by simp) ?_; intro gg cap w11 hown1 hgrow hat hlt; have bd1 := (bd.below (alloc_below w10 _)).push (hp.below (alloc_below w10 _)) (Nat.le_trans hlt0.2.2.2.2.1 hP) (fun i hi => by have := hsh i hi; omega) hown1 hgrow))
      clear bd hown1 hgrow hat hlt hlt0 hsh hb hP hp hown0
      go_wp2
      go_roundw
      case rel => exact ⟨j + 1, _, by omega, by go_num, bd1⟩
      case measure => simp [intOf]; omega
    · as_aux_lemma =>
      have hjn' : j = n := by omega
      subst hjn'
      clear hjn hj
      obtain ⟨ad, cap, L, rfl, had, hcap, pl⟩ := bd.pl hYl (fun i _ => hkS i) hYh.out.1 hYh.out.2
      replace hkm : Hid _ := hkm
      clear bd hYh hi hz0 hz1 hz2
      obtain ⟨ms, hms⟩ : ∃ ms : Nat → Sh, (fun i => (⟨ps i, kk i, false, 0, 0, 0⟩ : Sh)) = ms := ⟨_, rfl⟩
      rw [hms] at pl
      clear hms ps
      obtain ⟨B, hB, hBe, hBm⟩ : ∃ B : Int, IntKind.i64.wrap ((nP : Int) + 12 * (j : Int)) = B ∧ (B = (nP : Int) + 12 * (j : Int) ∨ B < 0) ∧ B ≤ 9223372036854775807 := ⟨_, rfl, by unfold maxLen at hnP; rw [IntKind.wrap_i64]; omega, by rw [IntKind.wrap_i64]; omega⟩
      have h12 : IntKind.i64.wrap (12 * (j : Int)) = 12 * (j : Int) := by rw [IntKind.wrap_i64]; omega
      go_wp2
      go_loopw [15] (fun i wr => ∃ (p : Nat) (X : List Nat) (T : Int) (ms : Nat → Sh), p ≤ nP + 12 * j ∧ i = .int .i64 p ∧ 0 ≤ T ∧ T ≤ ((min p 300 + (p - nP) : Nat) : Int) ∧ Pl w wr K e j M G L R Y X T kk ms) (fun i _ => (B - intOf i).toNat)
      case atStart => exact ⟨0, Y, 0, ms, Nat.zero_le _, rfl, by omega, by omega, pl⟩
      case round =>
        clear pl
        obtain ⟨p, X, T, ms, hp, rfl, hT0, hT1, pl⟩ := hrel
        by_cases hpB : (p : Int) < B
        · by_cases hpP : p < nP
          · by_cases hp3 : p < 300
            · obtain ⟨b, off, rfl, hbl, qz0⟩ := hQ p hpP
              have qz := cell_old pl.ds.bel hbl qz0
              generalize Q p = x at *
              by_cases hx0 : 0 ≤ x
              · by_cases hxn : x < (j : Int)
                · as_aux_lemma =>
                  have hj0 : 0 < j := by omega
                  obtain rfl := had hj0
                  obtain ⟨y, rfl⟩ := Int.eq_ofNat_of_zero_le hx0
                  have hy : y < j := by omega
                  have hm : (y : Int).tmod (j : Int) = (y : Int) := Int.tmod_eq_of_lt (by omega) (by omega)
                  have hne : (j : Int) ≠ 0 := by omega
                  have f1 : (p : Int) < (nP : Int) := by omega
                  have f2 : (p : Int) < 300 := by omega
                  have f3 : ¬ (300 ≤ (p : Int)) := by omega
                  have f4 : ¬ ((y : Int) < 0) := by omega
                  have f5 : ¬ ((j : Int) ≤ (y : Int)) := by omega
                  go_upto_region 18 with fail
                  clear qz
                  have c9 := touchesX pl.ds.mem
                  obtain ⟨b1, c10⟩ := pl.step hK hy hn10 ⟨hT0, by omega⟩ he
                  have qr := pl.row y hy
                  go_upto_region 20 with (first
                    | (go_at_call 9; with_reducible refine c9.mono ?_; rintro r w10 ⟨rfl, rfl⟩)
                    | (go_at_call 10; with_reducible refine c10.mono ?_; rintro r w11 ⟨X1, T1, m1, rfl, pl1, hTa, hTb, _⟩))
                  clear c9 c10 qr pl
                  have hl1 := pl1.inv.len
                  have c7 := wordsX pl1.ds.mem hl1 (by omega)
                  go_upto_region 21 with (go_at_call 7; with_reducible refine c7.mono ?_; rintro r w12 ⟨R2, rfl, hw2, hR2, hb⟩; replace pl1 := pl1.below hb)
                  clear c7 hR2 hb
                  have hfit := fun i => pl1.ds.mem.fits i
                  have c11 := fun (wq : World) (hr : IsWords wq R2 X1) (hq : WT wq) => lgrays_any hK (cap := K.N) hl1 hfit (RdW.of_words hr) hq
                  have hg1 : grN K X1 K.S ≤ X1.getD 2 0 := by rw [pl1.inv.gray, grN_cN]; omega
                  have hg2 := pl1.inv.x2
                  have hg3 := grN_le K X1 K.S
                  clear hfit
                  obtain ⟨gn, hgn⟩ : ∃ gn : Int, ((grN K X1 K.S : Nat) : Int) = gn := ⟨_, rfl⟩
                  obtain ⟨v2, hv2⟩ : ∃ v2 : Int, ((X1.getD 2 0 : Nat) : Int) = v2 := ⟨_, rfl⟩
                  rw [hgn] at c11
                  have q2 : ∀ wq, IsWords wq R2 X1 → wq.cell? ⟨R2, 2, none⟩ = some (.int .u64 v2) := fun wq h => by rw [← hv2]; exact Mm.words_at h 2 (by omega)
                  have hv2a : 0 ≤ v2 ∧ gn ≤ v2 ∧ v2 ≤ (K.S : Int) + (j : Int) ∧ 0 ≤ gn := by omega
                  clear hg1 hg2 hg3 hgn hv2
                  have h2N : (2 : Int) < (K.N : Int) := by omega
                  have d1 : decide (IntKind.i64.wrap (T + 1) < T1) = false := by rw [IntKind.wrap_i64]; simp; omega
                  have d2 : decide (v2 < IntKind.u64.wrap gn) = false := by rw [IntKind.wrap_u64]; simp; omega
                  have d3 : decide (IntKind.u64.wrap (IntKind.i64.wrap ((K.S : Int) + (j : Int))) < v2) = false := by rw [IntKind.wrap_i64, IntKind.wrap_u64]; simp; omega
                  clear hv2a
                  replace pl1 := pl1.drew
                  replace hw2 := words_below hw2 (Below.refl _ _).drew
                  have c9 := touchesX pl1.ds.mem
                  go_region_held3 (fun wq => (wq.cell? ⟨w.heap.size, 0, none⟩ = some (.int .i64 (K.S : Nat)) ∧ wq.cell? ⟨w.heap.size, 1, none⟩ = some (.int .i64 K.a) ∧ wq.cell? ⟨w.heap.size, 2, none⟩ = some (.int .i64 (K.C : Nat)) ∧ wq.cell? ⟨w.heap.size, 3, none⟩ = some (.int .i64 (K.D : Nat)) ∧ wq.cell? ⟨w.heap.size, 4, none⟩ = some (.int .i64 K.g) ∧ wq.cell? ⟨w.heap.size, 5, none⟩ = some (.int .i64 K.k)) ∧ wq.cell? ⟨R2, 2, none⟩ = some (.int .u64 v2))
                    (first
                      | with_reducible exact ⟨pl1.ds.cfg.cells, q2 _ hw2⟩)
                    (first
                      | (go_at_call 9; with_reducible refine c9.mono ?_; rintro r w13 ⟨rfl, rfl⟩)
                      | (go_at_call 11; with_reducible refine (c11 _ hw2 pl1.ds.wt).mono ?_; rintro r w13 ⟨rfl, hb⟩; replace pl1 := pl1.below hb; replace hw2 := words_below hw2 hb))
                  clear d1 d2 d3 c9 c11 q2 hw2 h2N
                  go_wp2
                  go_roundw
                  case rel => exact ⟨p + 1, X1, T1, updS ms y m1, by omega, by go_num, by omega, by omega, pl1⟩
                  case measure => simp [intOf]; omega
                · have f1 : (p : Int) < (nP : Int) := by omega
                  have f2 : (p : Int) < 300 := by omega
                  have f3 : ¬ (300 ≤ (p : Int)) := by omega
                  have f4 : ¬ (x < 0) := by omega
                  have f5 : (j : Int) ≤ x := by omega
                  go_wp2
                  clear qz
                  go_roundw
                  case rel => exact ⟨p + 1, X, T, ms, by omega, by go_num, hT0, by omega, pl⟩
                  case measure => simp [intOf]; omega
              · have hx1 : x < 0 := by omega
                have f1 : (p : Int) < (nP : Int) := by omega
                have f2 : (p : Int) < 300 := by omega
                have f3 : ¬ (300 ≤ (p : Int)) := by omega
                go_wp2
                clear qz
                go_roundw
                case rel => exact ⟨p + 1, X, T, ms, by omega, by go_num, hT0, by omega, pl⟩
                case measure => simp [intOf]; omega
            · have hp4 : 300 ≤ (p : Int) := by omega
              have f1 : (p : Int) < (nP : Int) := by omega
              have f2 : ¬ ((p : Int) < 300) := by omega
              go_wp2
              go_roundw
              case rel => exact ⟨p + 1, X, T, ms, by omega, by go_num, hT0, by omega, pl⟩
              case measure => simp [intOf]; omega
          · as_aux_lemma =>
            have hj0 : 0 < j := by omega
            obtain rfl := had hj0
            obtain ⟨y, hyp⟩ : ∃ y : Nat, y = p % j := ⟨_, rfl⟩
            have hy : y < j := by rw [hyp]; exact Nat.mod_lt _ hj0
            have hm : (p : Int).tmod (j : Int) = (y : Int) := by rw [hyp, Int.tmod_eq_emod_of_nonneg (by omega)]; rfl
            clear hyp
            have hne : (j : Int) ≠ 0 := by omega
            have f1 : ¬ ((p : Int) < (nP : Int)) := by omega
            go_upto_region 18 with fail
            have c9 := touchesX pl.ds.mem
            obtain ⟨b1, c10⟩ := pl.step hK hy hn10 ⟨hT0, by omega⟩ he
            have qr := pl.row y hy
            go_upto_region 20 with (first
              | (go_at_call 9; with_reducible refine c9.mono ?_; rintro r w10 ⟨rfl, rfl⟩)
              | (go_at_call 10; with_reducible refine c10.mono ?_; rintro r w11 ⟨X1, T1, m1, rfl, pl1, hTa, hTb, _⟩))
            clear c9 c10 qr pl
            have hl1 := pl1.inv.len
            have c7 := wordsX pl1.ds.mem hl1 (by omega)
            go_upto_region 21 with (go_at_call 7; with_reducible refine c7.mono ?_; rintro r w12 ⟨R2, rfl, hw2, hR2, hb⟩; replace pl1 := pl1.below hb)
            clear c7 hR2 hb
            have hfit := fun i => pl1.ds.mem.fits i
            have c11 := fun (wq : World) (hr : IsWords wq R2 X1) (hq : WT wq) => lgrays_any hK (cap := K.N) hl1 hfit (RdW.of_words hr) hq
            have hg1 : grN K X1 K.S ≤ X1.getD 2 0 := by rw [pl1.inv.gray, grN_cN]; omega
            have hg2 := pl1.inv.x2
            have hg3 := grN_le K X1 K.S
            clear hfit
            obtain ⟨gn, hgn⟩ : ∃ gn : Int, ((grN K X1 K.S : Nat) : Int) = gn := ⟨_, rfl⟩
            obtain ⟨v2, hv2⟩ : ∃ v2 : Int, ((X1.getD 2 0 : Nat) : Int) = v2 := ⟨_, rfl⟩
            rw [hgn] at c11
            have q2 : ∀ wq, IsWords wq R2 X1 → wq.cell? ⟨R2, 2, none⟩ = some (.int .u64 v2) := fun wq h => by rw [← hv2]; exact Mm.words_at h 2 (by omega)
            have hv2a : 0 ≤ v2 ∧ gn ≤ v2 ∧ v2 ≤ (K.S : Int) + (j : Int) ∧ 0 ≤ gn := by omega
            clear hg1 hg2 hg3 hgn hv2
            have h2N : (2 : Int) < (K.N : Int) := by omega
            have d1 : decide (IntKind.i64.wrap (T + 1) < T1) = false := by rw [IntKind.wrap_i64]; simp; omega
            have d2 : decide (v2 < IntKind.u64.wrap gn) = false := by rw [IntKind.wrap_u64]; simp; omega
            have d3 : decide (IntKind.u64.wrap (IntKind.i64.wrap ((K.S : Int) + (j : Int))) < v2) = false := by rw [IntKind.wrap_i64, IntKind.wrap_u64]; simp; omega
            clear hv2a
            replace pl1 := pl1.drew
            replace hw2 := words_below hw2 (Below.refl _ _).drew
            have c9 := touchesX pl1.ds.mem
            go_region_held3 (fun wq => (wq.cell? ⟨w.heap.size, 0, none⟩ = some (.int .i64 (K.S : Nat)) ∧ wq.cell? ⟨w.heap.size, 1, none⟩ = some (.int .i64 K.a) ∧ wq.cell? ⟨w.heap.size, 2, none⟩ = some (.int .i64 (K.C : Nat)) ∧ wq.cell? ⟨w.heap.size, 3, none⟩ = some (.int .i64 (K.D : Nat)) ∧ wq.cell? ⟨w.heap.size, 4, none⟩ = some (.int .i64 K.g) ∧ wq.cell? ⟨w.heap.size, 5, none⟩ = some (.int .i64 K.k)) ∧ wq.cell? ⟨R2, 2, none⟩ = some (.int .u64 v2))
              (first
                | with_reducible exact ⟨pl1.ds.cfg.cells, q2 _ hw2⟩)
              (first
                | (go_at_call 9; with_reducible refine c9.mono ?_; rintro r w13 ⟨rfl, rfl⟩)
                | (go_at_call 11; with_reducible refine (c11 _ hw2 pl1.ds.wt).mono ?_; rintro r w13 ⟨rfl, hb⟩; replace pl1 := pl1.below hb; replace hw2 := words_below hw2 hb))
            clear d1 d2 d3 c9 c11 q2 hw2 h2N
            go_wp2
            go_roundw
            case rel => exact ⟨p + 1, X1, T1, updS ms y m1, by omega, by go_num, by omega, by omega, pl1⟩
            case measure => simp [intOf]; omega
        · as_aux_lemma =>
          have hT420 : T ≤ 420 := by omega
          have hpB1 : B ≤ (p : Int) := by omega
          clear hT1 hBe hBm hQ hpB
          go_wp2
          clear hB h12 hpB1
          go_loopw [19] (fun i wr => ∃ (q : Nat) (X : List Nat) (T : Int) (ms : Nat → Sh), q ≤ j ∧ i = .int .i64 q ∧ 0 ≤ T ∧ T ≤ 420 + 25 * (q : Int) ∧ Hid (∀ i, i < q → (ms i).pc = 4) ∧ Pl w wr K e j M G L R Y X T kk ms) (fun i _ => j - (intOf i).toNat)
          case atStart => exact ⟨0, X, T, ms, Nat.zero_le _, rfl, hT0, by omega, fun i hi => by omega, pl⟩
          case round =>
            clear pl hT0 hT420 hp T X ms
            obtain ⟨q, X, T, ms, hq, rfl, hT0, hT1, hdn, pl⟩ := hrel
            by_cases hqj : q < j
            · as_aux_lemma =>
              obtain rfl := had (by omega)
              have hqi : (q : Int) < (j : Int) := by omega
              go_wp2
              go_loopw [20] (fun i wr => ∃ (t : Nat) (X : List Nat) (T : Int) (ms : Nat → Sh), i = .int .i64 t ∧ 0 ≤ T ∧ T ≤ 420 + 25 * (q : Int) + (t : Int) ∧ Hid (∀ i, i < q → (ms i).pc = 4) ∧ t + rkS K e X (ms q) ≤ 4 ∧ Pl w wr K e j M G L R Y X T kk ms) (fun i _ => 20 - (intOf i).toNat)
              case atStart => exact ⟨0, X, T, ms, rfl, hT0, by omega, hdn, by have := rkS_le K e X (ms q); omega, pl⟩
              case round =>
                clear pl hdn hT0 hT1 T X ms
                obtain ⟨t, X, T, ms, rfl, hT0, hT1, hdn, hrk, pl⟩ := hrel
                obtain ⟨b1, c10⟩ := pl.step hK hqj hn10 ⟨hT0, by omega⟩ he
                have qr := pl.row q hqj
                have ht : (t : Int) < 20 := by omega
                cases b1
                · as_aux_lemma =>
                  go_wp2_with (go_at_call 10; with_reducible refine c10.mono ?_; rintro r w11 ⟨X1, T1, m1, rfl, pl1, hTa, hTb, hor⟩)
                  clear c10 qr pl
                  go_roundw
                  case rel =>
                    refine ⟨t + 1, X1, T1, updS ms q m1, by go_num, by omega, by omega, fun i hi => ?_, ?_, pl1⟩
                    · rw [updS_other _ (by omega)]; exact hdn.out i hi
                    · rw [updS_same]
                      rcases hor.out with ⟨h, _⟩ | ⟨_, h⟩
                      · cases h
                      · omega
                  case measure => simp [intOf]; omega
                · as_aux_lemma =>
                  go_upto_region 29 with (go_at_call 10; with_reducible refine c10.mono ?_; rintro r w11 ⟨X1, T1, m1, rfl, pl1, hTa, hTb, hor⟩)
                  clear c10 qr pl
                  have hd1 : (updS ms q m1 q).pc = 4 := by
                    rw [updS_same]
                    rcases hor.out with ⟨_, h⟩ | ⟨h, _⟩
                    · exact h
                    · cases h
                  have c10 := pl1.done hqj hd1
                  have qr := pl1.row q hqj
                  have hdn1 : Hid (∀ i, i < q + 1 → (updS ms q m1 i).pc = 4) := fun i hi => by
                    by_cases hiq : i = q
                    · rw [hiq]; exact hd1
                    · rw [updS_other _ hiq]; exact hdn.out i (by omega)
                  clear hd1 hor hdn hrk
                  generalize updS ms q m1 = ms1 at *
                  go_wp2_with (go_at_call 10; with_reducible refine c10.mono ?_; rintro r w12 ⟨rfl, rfl⟩)
                  clear c10 qr
                  go_roundw
                  case rel => exact ⟨q + 1, X1, T1, ms1, by omega, by go_num, by omega, by omega, hdn1, pl1⟩
                  case measure => simp [intOf]; omega
            · as_aux_lemma =>
              have hqj' : q = j := by omega
              subst hqj'
              obtain ⟨e2, ew, eg⟩ := pl.final hdn.out
              replace e2 : Hid _ := e2
              replace ew : Hid _ := ew
              replace eg : Hid _ := eg
              clear hdn hqj hq
              have hl1 := pl.inv.len
              have c7 := wordsX pl.ds.mem hl1 (by omega)
              go_upto_region 32 with (go_at_call 7; with_reducible refine c7.mono ?_; rintro r w12 ⟨R3, rfl, hw3, hR3, hb⟩; replace pl := pl.below hb)
              clear c7 hR3 hb hT0 hT1
              go_wp2
              go_loopw [22, 23] (fun g i wr => ∃ t : Nat, t ≤ q ∧ i = .int .i64 t ∧ g = .int .i64 ((cN (fun i => (ms i).gw) t : Nat) : Int) ∧ Pl w wr K e q M G L R Y X T kk ms ∧ IsWords wr R3 X) (fun _ i _ => q - (intOf i).toNat)
              case atStart => exact ⟨0, Nat.zero_le _, rfl, rfl, pl, hw3⟩
              case round =>
                clear pl hw3
                obtain ⟨t, ht, rfl, rfl, pl, hw3⟩ := hrel
                have hcb := cN_le (fun i => (ms i).gw) t
                by_cases htq : t < q
                · obtain rfl := had (by omega)
                  have qr := pl.row t htq
                  have qs := (pl.shd t htq).cells.1
                  have hti : (t : Int) < (q : Int) := by omega
                  cases hgw : (ms t).gw
                  · have hc1 := cN_no (p := fun i => (ms i).gw) hgw
                    rw [hgw] at qs
                    rw [← hc1]
                    generalize hcc : cN (fun i => (ms i).gw) (t + 1) = c1 at *
                    go_wp2
                    clear qr qs
                    go_roundw
                    case rel => exact ⟨t + 1, by omega, by go_num, by rw [hcc], pl, hw3⟩
                    case measure => simp [intOf]; omega
                  · have hc1 := cN_yes (p := fun i => (ms i).gw) hgw
                    rw [hgw] at qs
                    generalize hcc : cN (fun i => (ms i).gw) (t + 1) = c1 at *
                    generalize cN (fun i => (ms i).gw) t = c0 at *
                    go_wp2
                    clear qr qs
                    go_roundw
                    case rel => exact ⟨t + 1, by omega, by go_num, by rw [hcc]; go_num, pl, hw3⟩
                    case measure => simp [intOf]; omega
                · as_aux_lemma =>
                  have htq' : t = q := by omega
                  subst htq'
                  obtain ⟨D, hD⟩ : ∃ D : Nat, cN (fun s => decide (K.hw X s ≠ K.hw Y s)) K.S = D := ⟨_, rfl⟩
                  rw [eg.out, hD]
                  have hDle := cN_le (fun s => decide (K.hw X s ≠ K.hw Y s)) K.S
                  rw [hD] at hDle
                  replace hD : Hid _ := hD
                  clear hcb eg htq ht
                  go_wp2
                  go_loopw [22, 24] (fun g i wr => ∃ (z : Nat) (gv : Int), z ≤ K.S ∧ i = .int .i64 z ∧ g = .int .i64 gv ∧ Hid (gv + ((cN (fun s => decide (K.hw X s ≠ K.hw Y s)) z : Nat) : Int) = (D : Int)) ∧ Pl w wr K e t M G L R Y X T kk ms ∧ IsWords wr R3 X) (fun _ i _ => K.S - (intOf i).toNat)
                  case atStart => exact ⟨0, D, Nat.zero_le _, rfl, rfl, by show (D : Int) + ((0 : Nat) : Int) = D; omega, pl, hw3⟩
                  case round =>
                    clear pl hw3
                    obtain ⟨z, gv, hz, rfl, rfl, hgv, pl, hw3⟩ := hrel
                    have hgb : -100 ≤ gv ∧ gv ≤ 100 := by
                      have h1 := hgv.out
                      have h2 := cN_le (fun s => decide (K.hw X s ≠ K.hw Y s)) z
                      omega
                    obtain ⟨l0, l1, l2, l3, l4, l5⟩ := pl.ds.cfg.cells
                    by_cases hzS : z < K.S
                    · as_aux_lemma =>
                      have hzi : (z : Int) < (K.S : Int) := by omega
                      have c12 := rheader_any hK z hzS
                      have hhd := K.hd_lt hzS
                      go_upto_region 42 with (go_at_call 12; with_reducible refine (c12 _).mono ?_; rintro r w12 ⟨rfl, hb⟩; replace pl := pl.below hb; replace hw3 := words_below hw3 hb)
                      clear l0 l1 l2 l3 l4 l5 c12 hb
                      have hwz := ew.out z hzS
                      obtain ⟨V, hVd⟩ : ∃ V, K.hw Y z = V := ⟨_, rfl⟩
                      have hVd2 : Y.getD (K.hd z) 0 = V := hVd
                      have hXz : X.getD (K.hd z) 0 = wantW e kk V z t := by rw [hVd] at hwz; exact hwz
                      have hV : V < 18446744073709551616 := by rw [← hVd2]; exact pl.inv.fits _
                      have hcz : decide (K.hw X z ≠ K.hw Y z) = decide (wantW e kk V z t ≠ V) := by rw [hwz, hVd]
                      replace hcz : Hid _ := hcz
                      have hxY : K.hd z < Y.length := by omega
                      have hxX : K.hd z < X.length := by omega
                      clear hwz hVd
                      generalize K.hd z = hx at *
                      have qv := Mm.words_at pl.was hx hxY
                      rw [hVd2] at qv
                      have hxi : (hx : Int) < (K.N : Int) := by omega
                      go_wp2
                      clear qv
                      go_loopw [26, 27] (fun v i wr => ∃ u : Nat, u ≤ t ∧ i = .int .i64 u ∧ v = .int .u64 ((wantW e kk V z u : Nat) : Int) ∧ Pl w wr K e t M G L R Y X T kk ms ∧ IsWords wr R3 X) (fun _ i _ => t - (intOf i).toNat)
                      case atStart => exact ⟨0, Nat.zero_le _, rfl, by rw [want_0], pl, hw3⟩
                      case round =>
                        clear pl hw3
                        obtain ⟨u, hu, rfl, rfl, pl, hw3⟩ := hrel
                        have qv := Mm.words_at pl.was hx hxY
                        rw [hVd2] at qv
                        by_cases hut : u < t
                        · obtain ⟨b, off, rfl, hbl, qz0⟩ := hZ u hut
                          have hui : (u : Int) < (t : Int) := by omega
                          obtain ⟨si, hsi⟩ : ∃ si : Int, (K.S : Int) = si := ⟨_, rfl⟩
                          obtain ⟨kt, hkt⟩ : ∃ kt : Int, (kk u : Int) = kt := ⟨_, rfl⟩
                          have hne : IntKind.u64.wrap si ≠ 0 := by rw [IntKind.wrap_u64]; omega
                          have hm : IntKind.i64.wrap ((IntKind.u64.wrap (Z u)).tmod (IntKind.u64.wrap si)) = kt := by
                            have hKS : IntKind.u64.wrap (K.S : Int) = (K.S : Int) := by rw [IntKind.wrap_u64]; omega
                            have := hkS u
                            rw [← hsi, hKS, hkm.out u, IntKind.wrap_i64]; omega
                          replace hsi : Hid _ := hsi
                          replace hkt : Hid _ := hkt
                          have c14 := fun w => (Hh.rblack_nat e he w).mono fun _ _ ⟨h1, h2⟩ => (⟨h1, h2.symm⟩ : _ ∧ _ = _)
                          obtain ⟨bk, hbk⟩ : ∃ bk : Int, ((blackN e : Nat) : Int) = bk := ⟨_, rfl⟩
                          rw [hbk] at c14
                          cases hok : okW V
                          · as_aux_lemma =>
                            have c13 := Hh.runpack_bad hV hok
                            have hcan : canS V e = false := by unfold canS; rw [hok]; rfl
                            go_upto_region 47 with (go_at_call 13; with_reducible refine (c13 _).mono ?_; rintro r w13 ⟨rfl, hb⟩; replace pl := pl.below hb; replace hw3 := words_below hw3 hb)
                            clear qv c13 hb
                            have hd := Hh.hd_new w13 0 0 false 0 0 0
                            have hb13 := alloc_below w13 (.cells #[.int .i64 0, .int .i64 0, .bool false, .int .i64 0, .int .i64 0, .int .i64 0] 46)
                            generalize w13.alloc (.cells #[.int .i64 0, .int .i64 0, .bool false, .int .i64 0, .int .i64 0, .int .i64 0] 46) = w14 at *
                            have qz := cell_old (pl.below hb13).ds.bel hbl qz0
                            have l0 := (pl.below hb13).ds.cfg.cells.1
                            rw [hsi.out] at l0
                            have h0 := hd.cells.1
                            have h1 := hd.cells.2.1
                            by_cases hkz : kk u = z
                            · as_aux_lemma =>
                              have d1 : (kt == (z : Int)) = true := by rw [← hkt.out, hkz]; simp
                              go_quiet (first | (go_at_call 14; exact Calls.quiet_of_same (c14 _)))
                              have hb9 := below_drewN hb13 nq
                              clear l0 h0 h1 qz hb13 hd
                              go_wp2
                              go_roundw
                              case rel => exact ⟨u + 1, by omega, by go_num, by rw [want_cant hcan], pl.below hb9, words_below hw3 hb9⟩
                              case measure => simp [intOf]; omega
                            · as_aux_lemma =>
                              have d1 : (kt == (z : Int)) = false := by have := hkt.out; simp; omega
                              go_quiet (first | (go_at_call 14; exact Calls.quiet_of_same (c14 _)))
                              have hb9 := below_drewN hb13 nq
                              clear l0 h0 h1 qz hb13 hd
                              go_wp2
                              go_roundw
                              case rel => exact ⟨u + 1, by omega, by go_num, by rw [want_no hkz], pl.below hb9, words_below hw3 hb9⟩
                              case measure => simp [intOf]; omega
                          · as_aux_lemma =>
                            obtain ⟨Kk, Mk, g, A, Nn, Sk, hH, hVw, hcan, hsh⟩ := can_parts hV hok e
                            have c13 := Hh.runpack_word g hH
                            rw [← hVw] at c13
                            have hcan0 := hcan
                            have c15 := Hh.rpack_any Kk (blackN e) true A Nn Sk hH.k (Hh.blackN_lt e) hH.a hH.n hH.s
                            obtain ⟨kd, hkd⟩ : ∃ kd : Int, (Kk : Int) = kd := ⟨_, rfl⟩
                            obtain ⟨md, hmd⟩ : ∃ md : Int, (Mk : Int) = md := ⟨_, rfl⟩
                            obtain ⟨a1, ha1⟩ : ∃ a1 : Int, (A : Int) = a1 := ⟨_, rfl⟩
                            obtain ⟨n1, hn1⟩ : ∃ n1 : Int, (Nn : Int) = n1 := ⟨_, rfl⟩
                            obtain ⟨s1, hs1⟩ : ∃ s1 : Int, (Sk : Int) = s1 := ⟨_, rfl⟩
                            rw [hkd, hmd, ha1, hn1, hs1] at c13
                            rw [hkd, hbk, ha1, hn1, hs1] at c15
                            rw [hkd, hmd, hbk] at hcan
                            replace hcan : Hid _ := hcan
                            clear hVw hH hmd ha1 hn1 hs1 hkd hcan0
                            go_upto_region 47 with (go_at_call 13; with_reducible refine (c13 _).mono ?_; rintro r w13 ⟨rfl, hb⟩; replace pl := pl.below hb; replace hw3 := words_below hw3 hb)
                            clear qv c13 hb
                            have hd := Hh.hd_new w13 kd md g a1 n1 s1
                            have hb13 := alloc_below w13 (.cells #[.int .i64 kd, .int .i64 md, .bool g, .int .i64 a1, .int .i64 n1, .int .i64 s1] 46)
                            generalize w13.alloc (.cells #[.int .i64 kd, .int .i64 md, .bool g, .int .i64 a1, .int .i64 n1, .int .i64 s1] 46) = w14 at *
                            have qz := cell_old (pl.below hb13).ds.bel hbl qz0
                            have l0 := (pl.below hb13).ds.cfg.cells.1
                            rw [hsi.out] at l0
                            have h0 := hd.cells.1
                            have h1 := hd.cells.2.1
                            by_cases hkz : kk u = z
                            · as_aux_lemma =>
                              have d1 : (kt == (z : Int)) = true := by rw [← hkt.out, hkz]; simp
                              by_cases hmb : md = bk
                              · have hcan2 : canS V e = false := by rw [hcan.out, hmb]; simp
                                have d2 : (md != bk) = false := by simp [hmb]
                                clear hmb
                                by_cases hk1 : kd = 1
                                · as_aux_lemma =>
                                  subst hk1
                                  go_quiet (first | (go_at_call 14; exact Calls.quiet_of_same (c14 _)))
                                  have hb9 := below_drewN hb13 nq
                                  clear l0 h0 h1 qz hb13 hd
                                  go_wp2
                                  go_roundw
                                  case rel => exact ⟨u + 1, by omega, by go_num, by rw [want_cant hcan2], pl.below hb9, words_below hw3 hb9⟩
                                  case measure => simp [intOf]; omega
                                · by_cases hk2 : kd = 2
                                  · as_aux_lemma =>
                                    subst hk2
                                    go_quiet (first | (go_at_call 14; exact Calls.quiet_of_same (c14 _)))
                                    have hb9 := below_drewN hb13 nq
                                    clear l0 h0 h1 qz hb13 hd
                                    go_wp2
                                    go_roundw
                                    case rel => exact ⟨u + 1, by omega, by go_num, by rw [want_cant hcan2], pl.below hb9, words_below hw3 hb9⟩
                                    case measure => simp [intOf]; omega
                                  · as_aux_lemma =>
                                    have d3 : (kd == 1) = false := by simpa using hk1
                                    have d4 : (kd == 2) = false := by simpa using hk2
                                    clear hk1 hk2
                                    go_quiet (first | (go_at_call 14; exact Calls.quiet_of_same (c14 _)))
                                    have hb9 := below_drewN hb13 nq
                                    clear l0 h0 h1 qz hb13 hd
                                    go_wp2
                                    go_roundw
                                    case rel => exact ⟨u + 1, by omega, by go_num, by rw [want_cant hcan2], pl.below hb9, words_below hw3 hb9⟩
                                    case measure => simp [intOf]; omega
                              · have d2 : (md != bk) = true := by simpa using hmb
                                by_cases hk1 : kd = 1
                                · as_aux_lemma =>
                                  have hcan1 : canS V e = true := by rw [hcan.out, hk1]; simpa [usedK] using hmb
                                  rw [hsh hcan1] at c15
                                  clear hmb hcan
                                  subst hk1
                                  go_quiet (first | (go_at_call 14; exact Calls.quiet_of_same (c14 _)))
                                  have hb9 := below_drewN hb13 nq
                                  replace hd := hd.below (below_drewN (Below.refl _ _) nq)
                                  generalize hw15 : w14.drewN nq = w15 at *
                                  clear l0 h0 h1 qz hb13 hw15
                                  obtain ⟨h0, h1, h2, h3, h4, h5⟩ := hd.cells
                                  have fz := hd_free hd
                                  have c14' := fun w => (Hh.rblack_nat e he w)
                                  rw [hbk] at c14'
                                  go_upto_region 50 with (go_at_call 14; with_reducible refine (c14' _).mono ?_; rintro r w16 ⟨rfl, rfl⟩)
                                  have hd3 : IsHd ((w15.setCell ⟨w13.heap.size, 1, none⟩ (.int .i64 bk)).setCell ⟨w13.heap.size, 2, none⟩ (.bool true)) w13.heap.size 1 bk true a1 n1 s1 := Hh.heap_setCell_at (Hh.heap_setCell_at hd _) _
                                  have hb8 : Below w13.heap.size w13 ((w15.setCell ⟨w13.heap.size, 1, none⟩ (.int .i64 bk)).setCell ⟨w13.heap.size, 2, none⟩ (.bool true)) := (hb9.setCell (p := ⟨w13.heap.size, 1, none⟩) (Nat.le_refl _) _).setCell (p := ⟨w13.heap.size, 2, none⟩) (Nat.le_refl _) _
                                  clear hd h0 h1 h2 h3 h4 h5 fz hb9
                                  generalize (w15.setCell ⟨w13.heap.size, 1, none⟩ (.int .i64 bk)).setCell ⟨w13.heap.size, 2, none⟩ (.bool true) = w17 at *
                                  obtain ⟨h0, h1, h2, h3, h4, h5⟩ := hd3.cells
                                  go_wp2_with (go_at_call 15; with_reducible refine (c15 _).mono ?_; rintro r w18 ⟨rfl, hb⟩)
                                  have hb7 := seq_below hb8 hb
                                  clear h0 h1 h2 h3 h4 h5 hd3 hb8 hb
                                  go_roundw
                                  case rel => exact ⟨u + 1, by omega, by go_num, by rw [want_can hkz hcan1], pl.below hb7, words_below hw3 hb7⟩
                                  case measure => simp [intOf]; omega
                                · by_cases hk2 : kd = 2
                                  · as_aux_lemma =>
                                    have hcan1 : canS V e = true := by rw [hcan.out, hk2]; simpa [usedK] using hmb
                                    rw [hsh hcan1] at c15
                                    clear hmb hcan hk1
                                    subst hk2
                                    go_quiet (first | (go_at_call 14; exact Calls.quiet_of_same (c14 _)))
                                    have hb9 := below_drewN hb13 nq
                                    replace hd := hd.below (below_drewN (Below.refl _ _) nq)
                                    generalize hw15 : w14.drewN nq = w15 at *
                                    clear l0 h0 h1 qz hb13 hw15
                                    obtain ⟨h0, h1, h2, h3, h4, h5⟩ := hd.cells
                                    have fz := hd_free hd
                                    have c14' := fun w => (Hh.rblack_nat e he w)
                                    rw [hbk] at c14'
                                    go_upto_region 50 with (go_at_call 14; with_reducible refine (c14' _).mono ?_; rintro r w16 ⟨rfl, rfl⟩)
                                    have hd3 : IsHd ((w15.setCell ⟨w13.heap.size, 1, none⟩ (.int .i64 bk)).setCell ⟨w13.heap.size, 2, none⟩ (.bool true)) w13.heap.size 2 bk true a1 n1 s1 := Hh.heap_setCell_at (Hh.heap_setCell_at hd _) _
                                    have hb8 : Below w13.heap.size w13 ((w15.setCell ⟨w13.heap.size, 1, none⟩ (.int .i64 bk)).setCell ⟨w13.heap.size, 2, none⟩ (.bool true)) := (hb9.setCell (p := ⟨w13.heap.size, 1, none⟩) (Nat.le_refl _) _).setCell (p := ⟨w13.heap.size, 2, none⟩) (Nat.le_refl _) _
                                    clear hd h0 h1 h2 h3 h4 h5 fz hb9
                                    generalize (w15.setCell ⟨w13.heap.size, 1, none⟩ (.int .i64 bk)).setCell ⟨w13.heap.size, 2, none⟩ (.bool true) = w17 at *
                                    obtain ⟨h0, h1, h2, h3, h4, h5⟩ := hd3.cells
                                    go_wp2_with (go_at_call 15; with_reducible refine (c15 _).mono ?_; rintro r w18 ⟨rfl, hb⟩)
                                    have hb7 := seq_below hb8 hb
                                    clear h0 h1 h2 h3 h4 h5 hd3 hb8 hb
                                    go_roundw
                                    case rel => exact ⟨u + 1, by omega, by go_num, by rw [want_can hkz hcan1], pl.below hb7, words_below hw3 hb7⟩
                                    case measure => simp [intOf]; omega
                                  · as_aux_lemma =>
                                    have hcan2 : canS V e = false := by rw [hcan.out]; simp [usedK, hk1, hk2]
                                    have d3 : (kd == 1) = false := by simpa using hk1
                                    have d4 : (kd == 2) = false := by simpa using hk2
                                    clear hk1 hk2 hmb
                                    go_quiet (first | (go_at_call 14; exact Calls.quiet_of_same (c14 _)))
                                    have hb9 := below_drewN hb13 nq
                                    clear l0 h0 h1 qz hb13 hd
                                    go_wp2
                                    go_roundw
                                    case rel => exact ⟨u + 1, by omega, by go_num, by rw [want_cant hcan2], pl.below hb9, words_below hw3 hb9⟩
                                    case measure => simp [intOf]; omega
                            · as_aux_lemma =>
                              have d1 : (kt == (z : Int)) = false := by have := hkt.out; simp; omega
                              go_quiet (first | (go_at_call 14; exact Calls.quiet_of_same (c14 _)))
                              have hb9 := below_drewN hb13 nq
                              clear l0 h0 h1 qz hb13 hd
                              go_wp2
                              go_roundw
                              case rel => exact ⟨u + 1, by omega, by go_num, by rw [want_no hkz], pl.below hb9, words_below hw3 hb9⟩
                              case measure => simp [intOf]; omega
                        · as_aux_lemma =>
                          have hut' : u = t := by omega
                          subst hut'
                          have qx := Mm.words_at hw3 hx hxX
                          rw [hXz] at qx
                          have hcz1 := hcz.out
                          clear hcz hXz hVd2 hu hut
                          generalize wantW e kk V z u = W1 at *
                          by_cases hWV : W1 = V
                          · as_aux_lemma =>
                            subst hWV
                            have hcn := cN_no (p := fun s => decide (K.hw X s ≠ K.hw Y s)) (n := z) (by simpa using hcz1)
                            have hgv1 : Hid (gv + ((cN (fun s => decide (K.hw X s ≠ K.hw Y s)) (z + 1) : Nat) : Int) = (D : Int)) := by show _ = _; rw [hcn]; exact hgv.out
                            clear hcn hcz1
                            go_wp2
                            clear qv qx
                            go_roundw
                            case rel => exact ⟨z + 1, gv, by omega, by go_num, by first | rfl | go_num, hgv1, pl, hw3⟩
                            case measure => simp [intOf]; omega
                          · as_aux_lemma =>
                            have hcn := cN_yes (p := fun s => decide (K.hw X s ≠ K.hw Y s)) (n := z) (by show decide (K.hw X z ≠ K.hw Y z) = true; rw [hcz1]; simpa using hWV)
                            have hgv1 : Hid (gv - 1 + ((cN (fun s => decide (K.hw X s ≠ K.hw Y s)) (z + 1) : Nat) : Int) = (D : Int)) := by have := hgv.out; show _ = _; rw [hcn]; omega
                            have hWi : (W1 : Int) ≠ (V : Int) := by omega
                            clear hcn hcz1
                            go_wp2
                            clear qv qx
                            go_roundw
                            case rel => exact ⟨z + 1, gv - 1, by omega, by go_num, by first | rfl | go_num, hgv1, pl, hw3⟩
                            case measure => simp [intOf]; omega
                    · as_aux_lemma =>
                      have hzS' : z = K.S := by omega
                      subst hzS'
                      have hg0 : gv = 0 := by
                        have h1 := hgv.out
                        have h2 := hD.out
                        rw [h2] at h1
                        omega
                      subst hg0
                      clear hgv hgb hz hD
                      have hfit := fun i => pl.ds.mem.fits i
                      have c11 := fun (wq : World) (hr : IsWords wq R3 X) (hq : WT wq) => lgrays_any hK (cap := K.N) hl1 hfit (RdW.of_words hr) hq
                      clear hfit
                      rw [← e2.out] at c11
                      obtain ⟨v2, hv2⟩ : ∃ v2 : Int, ((X.getD 2 0 : Nat) : Int) = v2 := ⟨_, rfl⟩
                      have hv2b := pl.inv.x2
                      rw [hv2] at c11
                      have q2 : ∀ wq, IsWords wq R3 X → wq.cell? ⟨R3, 2, none⟩ = some (.int .u64 v2) := fun wq h => by rw [← hv2]; exact Mm.words_at h 2 (by omega)
                      have d2 : (v2 == IntKind.u64.wrap v2) = true := by rw [IntKind.wrap_u64]; simp; omega
                      have h2N : (2 : Int) < (K.N : Int) := by omega
                      clear hv2b hv2 e2
                      go_upto_region 55 with fail
                      clear l0 l1 l2 l3 l4 l5
                      replace pl := pl.drew
                      replace hw3 := words_below hw3 (Below.refl _ _).drew
                      go_region_held3 (fun wq => (wq.cell? ⟨w.heap.size, 0, none⟩ = some (.int .i64 (K.S : Nat)) ∧ wq.cell? ⟨w.heap.size, 1, none⟩ = some (.int .i64 K.a) ∧ wq.cell? ⟨w.heap.size, 2, none⟩ = some (.int .i64 (K.C : Nat)) ∧ wq.cell? ⟨w.heap.size, 3, none⟩ = some (.int .i64 (K.D : Nat)) ∧ wq.cell? ⟨w.heap.size, 4, none⟩ = some (.int .i64 K.g) ∧ wq.cell? ⟨w.heap.size, 5, none⟩ = some (.int .i64 K.k)) ∧ wq.cell? ⟨R3, 2, none⟩ = some (.int .u64 v2))
                        (first
                          | with_reducible exact ⟨pl.ds.cfg.cells, q2 _ hw3⟩)
                        (first
                          | (go_at_call 11; with_reducible refine (c11 _ hw3 pl.ds.wt).mono ?_; rintro r w13 ⟨rfl, hb⟩; replace pl := pl.below hb; replace hw3 := words_below hw3 hb)
                          | (go_at_call 6; with_reducible refine (awake_any _ pl.ds.wt).mono ?_; rintro r w13 ⟨rfl, hb⟩; replace pl := pl.below hb; replace hw3 := words_below hw3 hb))
                      go_wp2
                      go_ret
                      exact ⟨rfl, pl.ds.bel⟩
end Go.Proofs.YtpfcpkkillklkaaDoor
