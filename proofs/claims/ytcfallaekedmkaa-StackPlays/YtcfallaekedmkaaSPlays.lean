/- The law of whatever is taken and laid, walked. -/
import Derived.Test.YtcfallaekedmkaaSPlays0
import Derived.Deep.QuietTactic
import Derived.BigQuiet
namespace Go.Proofs.Ytcfallaekedmkaa
open Go.RowKit
open Mm (IsMem MS zeroMS)
set_option linter.unusedVariables false

set_option maxRecDepth 100000 in
set_option maxHeartbeats 8000000 in
theorem plays_short (s a c d g k : Int) (wad pad : Option Addr) (wcap pcap : Nat) (Z : List (Option Addr × List Bool × Nat)) (Y : List Int) (w : World) (hC : Rows3 w wad Z) (hY : CameP isZ w pad Y) (hZ : Z.length ≤ 8) (hYm : Y.length ≤ maxLen) :
    Calls Try.prog 3 #[.agg (cs s a c d g k), .slice wad Z.length wcap, .slice pad Y.length pcap] w fun e w' => e = .returned (.bool true) ∧ Below w.heap.size w w' := by
  obtain ⟨i0, hi, hz0, hz1, hz2⟩ := info_parts Try.info35
  have cf := Fit_any s a c d g k
  have bel := alloc_below w (.cells #[.int .i64 s, .int .i64 a, .int .i64 c, .int .i64 d, .int .i64 g, .int .i64 k] 23)
  have hh := cfg_new w s a c d g k
  go_enter Try.func3, Try.ntmps3
  go_upto_region 1 with fail
  generalize w.alloc (.cells #[.int .i64 s, .int .i64 a, .int .i64 c, .int .i64 d, .int .i64 g, .int .i64 k] 23) = w1 at *
  obtain ⟨l0, l1, l2, l3, l4, l5⟩ := hh.cells
  go_upto_region 2 with (first
    | (go_at_call 9; refine (cf _).mono ?_; rintro e w2 ⟨⟨s', a', c', d', g', k', rfl, hs, ha, hc, hd, hg, hk⟩, b⟩; replace bel := seq_below bel b; replace hh := hh.below b; obtain ⟨l0, l1, l2, l3, l4, l5⟩ := hh.cells; have y0 := hh.free 0; have y1 := hh.free 1; have y2 := hh.free 2; have y3 := hh.free 3; have y4 := hh.free 4; have y5 := hh.free 5))
  have h3 := cfg_stored6 hh s' a' c' d' g' k'
  have bel3 := below_stored6 bel (Nat.le_refl w.heap.size) (.int .i64 s') (.int .i64 a') (.int .i64 c') (.int .i64 d') (.int .i64 g') (.int .i64 k')
  clear l0 l1 l2 l3 l4 l5 y0 y1 y2 y3 y4 y5 hh bel cf
  generalize ((((((w2.setCell ⟨w.heap.size, 0, none⟩ (.int .i64 s')).setCell ⟨w.heap.size, 1, none⟩ (.int .i64 a')).setCell ⟨w.heap.size, 2, none⟩ (.int .i64 c')).setCell ⟨w.heap.size, 3, none⟩ (.int .i64 d')).setCell ⟨w.heap.size, 4, none⟩ (.int .i64 g')).setCell ⟨w.heap.size, 5, none⟩ (.int .i64 k')) = w3 at *
  have hr : rightB s' a' c' d' g' k' = true := rightB_iff.2 (by omega)
  clear ha hc hd hg hk
  obtain ⟨K, hK, rfl, rfl, rfl, rfl, rfl, rfl⟩ := Cf.of_right hr
  have c10 := memory_yes hK.r hK.b hK.b8 hK.c8 hK.d16 hK.s64 hK.s1 hK.d1
  rw [show zeroMS (memX K.C K.D K.B (nW K.C K.D K.B K.S) (K.S - 1)) = memK0 K from rfl] at c10
  have hlt3 := h3.lt
  have hh := h3
  have bel := bel3
  clear h3 bel3 hr
  obtain ⟨l0, l1, l2, l3, l4, l5⟩ := hh.cells
  have c11 := awake_any
  unfold maxLen at hYm
  have hYc : ∀ i, i < Y.length → ∃ b off, pad = some ⟨b, off, none⟩ ∧ b < w.heap.size ∧ w.cell? ⟨b, off + i, none⟩ = some (.int .i64 (Y.getD i 0)) := fun i hi => by
    obtain ⟨b, off, v, e, hb, hc, hv⟩ := hY i hi
    refine ⟨b, off, e, hb, ?_⟩
    rw [hc, show v = .int .i64 Y[i] from hv]
    simp [hi]
  clear hY
  have hD : ∀ i, i < Z.length → ∃ b off za zk zc, wad = some ⟨b, off, none⟩ ∧ b < w.heap.size ∧ w.cell? ⟨b, off + i, none⟩ = some (.slice za (List.length zk) zc) ∧ zk.length ≤ zc ∧ Wk w w.heap.size za zk := fun i hi => by
    obtain ⟨b, off, h1, h2, h3, h4, h5⟩ := hC i hi
    exact ⟨b, off, _, _, _, h1, h2, h3, h4, h5⟩
  clear hC
  generalize Z.length = n at *
  generalize Y.length = np at *
  go_upto_region 5 with (first
    | (go_at_call 10; refine (c10 _).mono ?_; rintro e w4 ⟨M, G, rfl, hm, hM, hG, hb⟩; replace hh := hh.below hb; replace bel := seq_below bel hb; clear hb)
    | (go_at_call 11; refine (c11 _).mono ?_; rintro e w5 ⟨rfl, hb⟩; replace hh := hh.below hb; replace bel := seq_below bel hb; replace hm := hm.below hb; clear hb))
  clear l0 l1 l2 l3 l4 l5 c10
  have hS : K.S ≤ 12 := by omega
  have hM1 : w.heap.size + 1 ≤ M := by omega
  have hG1 : w.heap.size + 1 ≤ G := by omega
  have hMl := hm.M_lt
  have hGl := hm.G_lt
  have hhl := hh.lt
  go_wp2_with (at_make; refine wpList_make_full _ rfl _ _ 30 rfl w5.heap.size 35 i0 (.agg #[.slice none 0 0, .slice none 0 0, .pointer none, .pointer none, .int .i64 0]) 5 Try.underlying30 hi hz0 hz1 .i64 .i64 n n n rfl rfl rfl rfl ?c1 ?c2 (Nat.le_refl _) ?_)
  case c1 => rw [hz2]; omega
  case c2 => unfold maxLen; omega
  intro w6 hown hgrow
  have hrow := made_row (L := w5.heap.size) (n := n) (by exact hown)
  have hb6 := Mm.of_grown hgrow
  have wd := wd_new (n := n) hK (hm.below hb6) hrow (hh.below hb6) (seq_below bel hb6) hM1 hG1 ⟨by omega, by omega, by omega⟩
  generalize hLe : w5.heap.size = L at *
  clear hown hgrow hm hh bel hrow hb6 hM hG hMl hGl hhl hlt3 hi hz0 hz1 hz2 hLe
  go_wp2
  go_loopw [9] (fun i wr => ∃ (j : Nat) (ts : List Tk) (cur : Array Value), j ≤ n ∧ i = .int .i64 j ∧ ts.length = n ∧ (∀ i (hi : i < ts.length), (ts[i]).mc = .idle) ∧ Wd w wr K M G L (memK0 K) 0 (List.range' 0 K.S) cur ts) (fun i _ => n - (intOf i).toNat)
  case atStart => exact ⟨0, _, _, Nat.zero_le _, rfl, by simp, (fun i hi => by rw [List.getElem_replicate]; rfl), wd⟩
  case round =>
    clear wd
    obtain ⟨j, ts, cur, hj, rfl, hts, hid, wd⟩ := hrel
    by_cases hjn : j < n
    · obtain ⟨b, off, za, zk, zc, rfl, hbl, hq, hwl, hwk⟩ := hD j (by omega)
      have q := (wd.bel.cell (p := ⟨b, off + j, none⟩) hbl).trans hq
      have hwk2 := hwk.chg (l := []) (Chg.of_below wd.bel) (by simp) (Nat.le_refl _)
      have wd2 := wd.work (Int.le_refl _) (j := j) (by omega) (hid j (by omega)) _ _ _ hwk2 hwl
      have tk := wd.tk j (by omega)
      have cL := wd.row.cell tk.c1
      have fL := wd.row.free
      clear hwk hwk2 hq tk
      clear hD
      go_wp2
      go_roundw
      case rel => exact ⟨j + 1, _, _, by omega, by go_num, by simp [hts], (fun i hi => by
        rw [List.length_set] at hi
        by_cases e : j = i
        · subst e; rw [List.getElem_set_self]
        · rw [List.getElem_set_ne e]; exact hid i hi), wd2⟩
      case measure => simp [intOf]; omega
    · have hjn' : j = n := by omega
      subst hjn'
      clear hid hD
      go_wp2
      go_loopw [10] (fun i wr => ∃ (p : Nat) (ts : List Tk) (m : MS) (tag : Nat) (F : List Nat) (cur : Array Value), p ≤ np ∧ p ≤ 400 ∧ i = .int .i64 p ∧ ts.length = j ∧ tag ≤ p ∧ 0 ≤ m.t ∧ m.t ≤ p ∧ Wd w wr K M G L m tag F cur ts) (fun i _ => 400 - (intOf i).toNat)
      case atStart => exact ⟨0, _, _, _, _, _, Nat.zero_le _, by omega, rfl, hts, Nat.le_refl _, Int.le_refl _, Int.le_refl _, wd⟩
      case round =>
        clear wd hts
        obtain ⟨p, ts, m, tag, F, cur, hp, hp4, rfl, hts, htag, hm0, hm1, wd⟩ := hrel
        by_cases hpn : p < np
        · by_cases hp5 : p < 400
          · obtain ⟨b, off, rfl, hbl, q⟩ := hYc p hpn
            replace q := (wd.bel.cell (p := ⟨b, off + p, none⟩) hbl).trans q
            clear hYc
            generalize Y.getD p 0 = x at *
            by_cases hx0 : 0 ≤ x
            · by_cases hxn : x < (j : Int)
              · obtain ⟨i, rfl⟩ : ∃ i : Nat, x = (i : Int) := ⟨x.toNat, by omega⟩
                have hij : i < ts.length := by omega
                go_upto_region 14 with fail
                clear q
                replace wd := wd.below (Below.refl _ _).drew
                have qs := step_any (wd.ask hK ⟨hm0, by omega⟩ (by omega) hij)
                go_region_held (fun wr => wr.cell? ⟨w.heap.size, 0, none⟩ = some (.int .i64 (K.S : Nat)) ∧ wr.cell? ⟨w.heap.size, 1, none⟩ = some (.int .i64 K.a) ∧ wr.cell? ⟨w.heap.size, 2, none⟩ = some (.int .i64 (K.C : Nat)) ∧ wr.cell? ⟨w.heap.size, 3, none⟩ = some (.int .i64 (K.D : Nat)) ∧ wr.cell? ⟨w.heap.size, 4, none⟩ = some (.int .i64 K.g) ∧ wr.cell? ⟨w.heap.size, 5, none⟩ = some (.int .i64 K.k)) (with_reducible exact wd.cells) (first
                  | (go_at_call 12; with_reducible refine qs.mono ?_; rintro e w7 ⟨rfl, m', tag', F', cur', t', lf⟩; have lt := lf.t0; have lg := lf.tg; replace wd := wd.step hij lf))
                go_wp2
                go_roundw
                case rel => exact ⟨p + 1, _, _, _, _, _, by omega, by omega, by go_num, by simp [hts], by omega, lt.1, by have := lt.2; omega, wd⟩
                case measure => simp [intOf]; omega
              · have hd : decide (x < (j : Int)) = false := by simpa using hxn
                go_upto_region 14 with fail
                clear q hxn
                go_quiet (fail)
                go_wp2
                go_roundw
                case rel => exact ⟨p + 1, _, _, _, _, _, by omega, by omega, by go_num, hts, by omega, hm0, by omega, wd.below ⟨rfl, rfl, rfl, Nat.le_refl _, fun _ _ => rfl⟩⟩
                case measure => simp [intOf]; omega
            · have hd : decide (0 ≤ x) = false := by simpa using hx0
              go_upto_region 14 with fail
              clear q hx0
              go_quiet (fail)
              go_wp2
              go_roundw
              case rel => exact ⟨p + 1, _, _, _, _, _, by omega, by omega, by go_num, hts, by omega, hm0, by omega, wd.below ⟨rfl, rfl, rfl, Nat.le_refl _, fun _ _ => rfl⟩⟩
              case measure => simp [intOf]; omega
          · go_upto_region 16 with fail
            clear hYc
            replace wd := wd.below (Below.refl _ _).drew
            go_region_held (fun wr => wr.cell? ⟨w.heap.size, 0, none⟩ = some (.int .i64 (K.S : Nat)) ∧ wr.cell? ⟨w.heap.size, 1, none⟩ = some (.int .i64 K.a) ∧ wr.cell? ⟨w.heap.size, 2, none⟩ = some (.int .i64 (K.C : Nat)) ∧ wr.cell? ⟨w.heap.size, 3, none⟩ = some (.int .i64 (K.D : Nat)) ∧ wr.cell? ⟨w.heap.size, 4, none⟩ = some (.int .i64 K.g) ∧ wr.cell? ⟨w.heap.size, 5, none⟩ = some (.int .i64 K.k)) (with_reducible exact wd.cells) (first
              | (go_at_call 14; with_reducible refine (words_m hK wd.mem wd.top).mono ?_; rintro e w7 ⟨R, rfl, hw, hX, hb⟩; have tp := wd.top; replace wd := wd.below hb)
              | (go_at_call 13; with_reducible refine (rlist_m hK hw tp hX).mono ?_; rintro e w8 ⟨v, rfl, hI, hv, hb⟩; replace wd := wd.below hb))
            clear hw tp hX hv hb
            have hFl := wd.F_le hS
            obtain ⟨l0, l1, l2, l3, l4, l5⟩ := wd.cells
            clear l1 l2 l3 l4 l5
            go_wp2
            go_loopw [13] (fun x wr => ∃ y : Nat, y ≤ K.S ∧ x = .int .i64 y ∧ Wd w wr K M G L m tag F cur ts ∧ IsI wr v F) (fun x _ => K.S - (intOf x).toNat)
            case atStart => exact ⟨0, Nat.zero_le _, rfl, wd, hI⟩
            case round =>
              clear wd hI l0
              obtain ⟨y, hy, rfl, wd, hI⟩ := hrel
              obtain ⟨l0, l1, l2, l3, l4, l5⟩ := wd.cells
              clear l1 l2 l3 l4 l5
              by_cases hyS : y < K.S
              · have q15 := has_any hI hFl y
                have hall := wd.all y
                rw [if_pos hyS] at hall
                have hall : Hid (F.count y + cnt y ts = 1) := hall
                obtain ⟨bf, N0, hbf, hN0, hd⟩ : ∃ (bf : Bool) (N0 : Nat), decide (y ∈ F) = bf ∧ Hid (N0 = F.count y + cnt y (ts.take 0)) ∧ ((bf = true ∧ N0 = 1) ∨ (bf = false ∧ N0 = 0)) := by
                  by_cases hm : y ∈ F
                  · have := List.count_pos_iff.2 hm
                    exact ⟨true, 1, by simpa using hm, by unfold Hid; simp [cnt]; omega, .inl ⟨rfl, rfl⟩⟩
                  · exact ⟨false, 0, by simpa using hm, by unfold Hid; simp [cnt]; exact (List.count_eq_zero.2 hm).symm, .inr ⟨rfl, rfl⟩⟩
                rw [hbf] at q15
                clear hbf
                rcases hd with ⟨rfl, rfl⟩ | ⟨rfl, rfl⟩
                all_goals
                  go_wp2_with (go_at_call 15; with_reducible refine q15.mono ?_; rintro e w9 ⟨rfl, rfl⟩)
                  clear q15
                  go_loop [14, 15] (fun nn i => ∃ (N i' : Nat), i' ≤ j ∧ i = .int .i64 i' ∧ nn = .int .i64 N ∧ Hid (N = F.count y + cnt y (ts.take i'))) (fun _ i => j - (intOf i).toNat)
                  case atStart => exact ⟨_, 0, Nat.zero_le _, rfl, rfl, hN0⟩
                  case round =>
                    clear hN0
                    obtain ⟨N, i, hij, rfl, rfl, hN⟩ := hrel
                    by_cases hin : i < j
                    · have hN1 : N ≤ 20 := by
                        have h0 := hN.out
                        have := hall.out
                        have h1 := cnt_le y ts i
                        omega
                      obtain ⟨hv, pa, la, bh, z0, z3, z4, q16, hd⟩ := wd.look hK (i := i) (by omega) y N hN
                      rcases hd with ⟨rfl, hN2⟩ | ⟨rfl, rfl, hN2⟩ | ⟨rfl, P, rfl, rfl, hN2⟩ | ⟨rfl, P, rfl, hla, hN2⟩
                      all_goals
                        go_wp2_with (go_at_call 15; with_reducible refine q16.mono ?_; rintro e w10 ⟨rfl, rfl⟩)
                        go_round
                        case rel => exact ⟨_, i + 1, by omega, by go_num, by go_num, hN2⟩
                        case measure => simp [intOf]; omega
                    · have hie : i = j := by omega
                      subst hie
                      replace hN := hN.out
                      rw [← hts, List.take_length] at hN
                      have hN1 : N = 1 := by have := hall.out; omega
                      subst hN1
                      clear hN
                      go_wp2
                      go_roundw
                      case rel => exact ⟨y + 1, by omega, by go_num, wd, hI⟩
                      case measure => simp [intOf]; omega
              · go_wp2_with (go_at_call 11; refine (c11 _).mono ?_; rintro e w9 ⟨rfl, hb⟩)
                go_ret
                exact ⟨rfl, seq_below wd.bel hb⟩
        · go_upto_region 16 with fail
          clear hYc
          replace wd := wd.below (Below.refl _ _).drew
          go_region_held (fun wr => wr.cell? ⟨w.heap.size, 0, none⟩ = some (.int .i64 (K.S : Nat)) ∧ wr.cell? ⟨w.heap.size, 1, none⟩ = some (.int .i64 K.a) ∧ wr.cell? ⟨w.heap.size, 2, none⟩ = some (.int .i64 (K.C : Nat)) ∧ wr.cell? ⟨w.heap.size, 3, none⟩ = some (.int .i64 (K.D : Nat)) ∧ wr.cell? ⟨w.heap.size, 4, none⟩ = some (.int .i64 K.g) ∧ wr.cell? ⟨w.heap.size, 5, none⟩ = some (.int .i64 K.k)) (with_reducible exact wd.cells) (first
            | (go_at_call 14; with_reducible refine (words_m hK wd.mem wd.top).mono ?_; rintro e w7 ⟨R, rfl, hw, hX, hb⟩; have tp := wd.top; replace wd := wd.below hb)
            | (go_at_call 13; with_reducible refine (rlist_m hK hw tp hX).mono ?_; rintro e w8 ⟨v, rfl, hI, hv, hb⟩; replace wd := wd.below hb))
          clear hw tp hX hv hb
          have hFl := wd.F_le hS
          obtain ⟨l0, l1, l2, l3, l4, l5⟩ := wd.cells
          clear l1 l2 l3 l4 l5
          go_wp2
          go_loopw [13] (fun x wr => ∃ y : Nat, y ≤ K.S ∧ x = .int .i64 y ∧ Wd w wr K M G L m tag F cur ts ∧ IsI wr v F) (fun x _ => K.S - (intOf x).toNat)
          case atStart => exact ⟨0, Nat.zero_le _, rfl, wd, hI⟩
          case round =>
            clear wd hI l0
            obtain ⟨y, hy, rfl, wd, hI⟩ := hrel
            obtain ⟨l0, l1, l2, l3, l4, l5⟩ := wd.cells
            clear l1 l2 l3 l4 l5
            by_cases hyS : y < K.S
            · have q15 := has_any hI hFl y
              have hall := wd.all y
              rw [if_pos hyS] at hall
              have hall : Hid (F.count y + cnt y ts = 1) := hall
              obtain ⟨bf, N0, hbf, hN0, hd⟩ : ∃ (bf : Bool) (N0 : Nat), decide (y ∈ F) = bf ∧ Hid (N0 = F.count y + cnt y (ts.take 0)) ∧ ((bf = true ∧ N0 = 1) ∨ (bf = false ∧ N0 = 0)) := by
                by_cases hm : y ∈ F
                · have := List.count_pos_iff.2 hm
                  exact ⟨true, 1, by simpa using hm, by unfold Hid; simp [cnt]; omega, .inl ⟨rfl, rfl⟩⟩
                · exact ⟨false, 0, by simpa using hm, by unfold Hid; simp [cnt]; exact (List.count_eq_zero.2 hm).symm, .inr ⟨rfl, rfl⟩⟩
              rw [hbf] at q15
              clear hbf
              rcases hd with ⟨rfl, rfl⟩ | ⟨rfl, rfl⟩
              all_goals
                go_wp2_with (go_at_call 15; with_reducible refine q15.mono ?_; rintro e w9 ⟨rfl, rfl⟩)
                clear q15
                go_loop [14, 15] (fun nn i => ∃ (N i' : Nat), i' ≤ j ∧ i = .int .i64 i' ∧ nn = .int .i64 N ∧ Hid (N = F.count y + cnt y (ts.take i'))) (fun _ i => j - (intOf i).toNat)
                case atStart => exact ⟨_, 0, Nat.zero_le _, rfl, rfl, hN0⟩
                case round =>
                  clear hN0
                  obtain ⟨N, i, hij, rfl, rfl, hN⟩ := hrel
                  by_cases hin : i < j
                  · have hN1 : N ≤ 20 := by
                      have h0 := hN.out
                      have := hall.out
                      have h1 := cnt_le y ts i
                      omega
                    obtain ⟨hv, pa, la, bh, z0, z3, z4, q16, hd⟩ := wd.look hK (i := i) (by omega) y N hN
                    rcases hd with ⟨rfl, hN2⟩ | ⟨rfl, rfl, hN2⟩ | ⟨rfl, P, rfl, rfl, hN2⟩ | ⟨rfl, P, rfl, hla, hN2⟩
                    all_goals
                      go_wp2_with (go_at_call 15; with_reducible refine q16.mono ?_; rintro e w10 ⟨rfl, rfl⟩)
                      go_round
                      case rel => exact ⟨_, i + 1, by omega, by go_num, by go_num, hN2⟩
                      case measure => simp [intOf]; omega
                  · have hie : i = j := by omega
                    subst hie
                    replace hN := hN.out
                    rw [← hts, List.take_length] at hN
                    have hN1 : N = 1 := by have := hall.out; omega
                    subst hN1
                    clear hN
                    go_wp2
                    go_roundw
                    case rel => exact ⟨y + 1, by omega, by go_num, wd, hI⟩
                    case measure => simp [intOf]; omega
            · go_wp2_with (go_at_call 11; refine (c11 _).mono ?_; rintro e w9 ⟨rfl, hb⟩)
              go_ret
              exact ⟨rfl, seq_below wd.bel hb⟩
end Go.Proofs.Ytcfallaekedmkaa
