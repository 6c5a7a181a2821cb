/- The law of places that are apart, walked. -/
import Derived.Test.YtcpbfbdmfkhaeabPAcon
namespace Go.Proofs.Ytcpbfbdmfkhaeab
open Go.RowKit
open Mm (Only of_grown)

set_option maxRecDepth 100000 in
set_option maxHeartbeats 8000000 in
theorem apart_law (s a c d g k : Int) (w : World) : Calls Try.prog 7 #[.agg (cs s a c d g k)] w fun e w' => e = .returned (.bool true) ∧ Below w.heap.size w w' := by
  have cf := Fit_any s a c d g k
  have bel := alloc_below w (.cells #[.int .i64 s, .int .i64 a, .int .i64 c, .int .i64 d, .int .i64 g, .int .i64 k] 23)
  have hh := cfg_new w s a c d g k
  go_enter Try.func7, Try.ntmps7
  go_upto_region 1 with fail
  generalize w.alloc (.cells #[.int .i64 s, .int .i64 a, .int .i64 c, .int .i64 d, .int .i64 g, .int .i64 k] 23) = w1 at *
  obtain ⟨l0, l1, l2, l3, l4, l5⟩ := hh.cells
  go_upto_region 2 with (first
    | (go_at_call 27; refine (cf _).mono ?_; rintro e w2 ⟨⟨s', a', c', d', g', k', rfl, hs, ha, hc, hd, hg, hk⟩, b⟩; replace bel := seq_below bel b; replace hh := hh.below b; obtain ⟨l0, l1, l2, l3, l4, l5⟩ := hh.cells; have y0 := hh.free 0; have y1 := hh.free 1; have y2 := hh.free 2; have y3 := hh.free 3; have y4 := hh.free 4; have y5 := hh.free 5))
  have h3 := cfg_stored6 hh s' a' c' d' g' k'
  have bel3 := below_stored6 bel (Nat.le_refl w.heap.size) (.int .i64 s') (.int .i64 a') (.int .i64 c') (.int .i64 d') (.int .i64 g') (.int .i64 k')
  clear l0 l1 l2 l3 l4 l5 y0 y1 y2 y3 y4 y5 hh bel cf
  generalize ((((((w2.setCell ⟨w.heap.size, 0, none⟩ (.int .i64 s')).setCell ⟨w.heap.size, 1, none⟩ (.int .i64 a')).setCell ⟨w.heap.size, 2, none⟩ (.int .i64 c')).setCell ⟨w.heap.size, 3, none⟩ (.int .i64 d')).setCell ⟨w.heap.size, 4, none⟩ (.int .i64 g')).setCell ⟨w.heap.size, 5, none⟩ (.int .i64 k')) = w3 at *
  have hr : rightB s' a' c' d' g' k' = true := rightB_iff.2 (by omega)
  clear hs ha hc hd hg hk
  obtain ⟨C, D, S, B, rfl, rfl, rfl, hB, hB8, _, hD1, hC1, hS1, hC8, hD16, hS64⟩ := nat_cfg hr
  obtain ⟨hN4, hN⟩ := nW_b hC8 hD16 hS64 hB8
  have c11 := size_yes hr
  rw [szI_nat C D S B a' hB] at c11
  have hpin := fun u hu => pin_n hr u hu
  have hview := fun u hu => view_n hr u hu
  have hstart := fun u hu => start_n hr u hu
  have hent := fun u m hu hm => entry_n hr u m hu hm
  have hhead := fun u hu => header_n hr hB u hu
  have hlink := fun u hu => link_n hr hB u hu
  have hbody := fun u n hu hn => body_n hr hB u n hu hn
  have hslot := fun u n hu hn => slot_n hr hB u n hu hn
  have c29 := room_any S a' C D g' k'
  rw [hB] at c29
  have c12 := awake_any
  have z0 := met_start (C := C) (D := D) (B := B) (S := S)
  have zend := fun p hp => met_end (C := C) (D := D) (B := B) (S := S) hD1 p hp
  have zent := fun u => roll_entry (C := C) (D := D) (B := B) (S := S) hD1 u
  have zbody := fun u => roll_body (C := C) (D := D) (B := B) (S := S) hD1 u
  clear hr hB
  generalize hNe : nW C D B S = N at *
  obtain ⟨i0, hi, hz0, hz1, hz2⟩ := info_parts Try.info3
  obtain ⟨l0, l1, l2, l3, l4, l5⟩ := h3.cells
  go_upto_region 6 with (first
    | (go_at_call 11; refine (c11 _).mono ?_; rintro e w4 ⟨rfl, b⟩; replace bel3 := seq_below bel3 b; replace h3 := h3.below b; obtain ⟨l0, l1, l2, l3, l4, l5⟩ := h3.cells)
    | (at_make; refine wpList_make_full _ rfl _ _ 44 rfl w4.heap.size 3 i0 (.int .i64 0) 1 Try.underlying44 hi hz0 hz1 .i64 .i64 N N N rfl rfl rfl rfl ?c1 ?c2 (Nat.le_refl _) ?_))
  case c1 => rw [hz2]; omega
  case c2 => unfold maxLen; omega
  intro w5 hown hgrow
  have ap : Ap w w5 w4.heap.size S a' C D g' k' (firstK N 0) := ⟨firstK_zero N ▸ made_ints hown rfl, h3.below (of_grown hgrow), seq_below bel3 (of_grown hgrow), h3.lt⟩
  clear hown hgrow h3 bel3 l0 l1 l2 l3 l4 l5 c11
  generalize w4.heap.size = R at *
  generalize a' = a at *
  generalize g' = g at *
  generalize k' = k at *
  go_wp2
  go_loopw [5] (fun i wr => ∃ j : Nat, j ≤ 4 ∧ i = .int .i64 j ∧ Ap w wr R S a C D g k (firstK N j)) (fun i _ => 4 - (intOf i).toNat)
  case atStart => exact ⟨0, Nat.zero_le _, rfl, ap⟩
  case round =>
    clear ap
    obtain ⟨j, hj, rfl, ap⟩ := hrel
    by_cases hj4 : j < 4
    · have q := ints_at ap.ints j (by simp [firstK]; omega)
      rw [firstK_get N j (by omega)] at q
      have f := ints_free ap.ints j
      go_wp2
      go_roundw
      case rel => exact ⟨j + 1, by omega, by go_num, ap.only (firstK_step N j ▸ ints_stored ap.ints j 1 _ rfl) ((Only.refl R R wr).setCell (.inl rfl) _)⟩
      case measure => simp [intOf]; omega
    · have hj44 : j = 4 := by omega
      rw [hj44] at ap ⊢
      clear hj hj4 hj44
      rw [show firstK N 4 = met C D B N 0 0 0 0 0 0 0 0 0 from z0] at ap
      clear z0
      go_wp2
      go_loopw [6, 7] (fun v i wr => ∃ u : Nat, u ≤ C ∧ i = .int .i64 u ∧ v = .bool true ∧ Ap w wr R S a C D g k (met C D B N u u u u 0 0 0 0 0)) (fun _ i _ => C - (intOf i).toNat)
      case atStart => exact ⟨0, Nat.zero_le _, rfl, rfl, ap⟩
      case round =>
        clear ap
        obtain ⟨u, hu, rfl, rfl, ap⟩ := hrel
        obtain ⟨l0, l1, l2, l3, l4, l5⟩ := ap.cfg.cells
        by_cases huC : u < C
        · have d1 := hpin u huC
          have d2 := hview u huC
          have d3 := hstart u huC
          obtain ⟨P1, hP1⟩ : ∃ P, 4 + u = P := ⟨_, rfl⟩
          rw [hP1] at d1
          obtain ⟨P3, hP3⟩ : ∃ P, 4 + C + C * D + 2 * u + 1 = P := ⟨_, rfl⟩
          rw [hP3] at d3
          obtain ⟨P2, hP2⟩ : ∃ P, 4 + C + C * D + 2 * u = P := ⟨_, rfl⟩
          rw [hP2] at d2
          go_wp2_with (first
            | (go_at_call 13; with_reducible refine (d1 _).mono ?_; rintro e wx ⟨rfl, b⟩; replace ap := ap.below b; obtain ⟨l0, l1, l2, l3, l4, l5⟩ := ap.cfg.cells)
            | (go_at_call 16; with_reducible refine (d2 _).mono ?_; rintro e wx ⟨rfl, b⟩; replace ap := ap.below b; obtain ⟨l0, l1, l2, l3, l4, l5⟩ := ap.cfg.cells)
            | (go_at_call 17; with_reducible refine (d3 _).mono ?_; rintro e wx ⟨rfl, b⟩; replace ap := ap.below b; obtain ⟨l0, l1, l2, l3, l4, l5⟩ := ap.cfg.cells)
            | (go_at_call 28; with_reducible refine (mk_pin hD1 hNe huC hP1 ap).mono ?_; rintro e wx ⟨rfl, ap'⟩; replace ap := ap'; obtain ⟨l0, l1, l2, l3, l4, l5⟩ := ap.cfg.cells)
            | (go_at_call 28; with_reducible refine (mk_view hD1 hNe huC hP2 ap).mono ?_; rintro e wx ⟨rfl, ap'⟩; replace ap := ap'; obtain ⟨l0, l1, l2, l3, l4, l5⟩ := ap.cfg.cells)
            | (go_at_call 28; with_reducible refine (mk_start hD1 hNe huC hP3 ap).mono ?_; rintro e wx ⟨rfl, ap'⟩; replace ap := ap'; obtain ⟨l0, l1, l2, l3, l4, l5⟩ := ap.cfg.cells))
          clear d1 d2 d3
          go_loopw [6, 8] (fun v i wr => ∃ m : Nat, m ≤ D ∧ i = .int .i64 m ∧ v = .bool true ∧ Ap w wr R S a C D g k (met C D B N (u + 1) (u + 1) (u + 1) u m 0 0 0 0)) (fun _ i _ => D - (intOf i).toNat)
          case atStart => exact ⟨0, Nat.zero_le _, rfl, rfl, ap⟩
          case round =>
            clear ap l0 l1 l2 l3 l4 l5
            obtain ⟨m, hm, rfl, rfl, ap⟩ := hrel
            obtain ⟨l0, l1, l2, l3, l4, l5⟩ := ap.cfg.cells
            by_cases hmD : m < D
            · have d1 := hent u m huC hmD
              obtain ⟨P1, hP1⟩ : ∃ P, 4 + C + u * D + m = P := ⟨_, rfl⟩
              rw [hP1] at d1
              go_wp2_with (first
                | (go_at_call 15; with_reducible refine (d1 _).mono ?_; rintro e wx ⟨rfl, b⟩; replace ap := ap.below b; obtain ⟨l0, l1, l2, l3, l4, l5⟩ := ap.cfg.cells)
                | (go_at_call 28; with_reducible refine (mk_entry hD1 hNe huC hmD hP1 ap).mono ?_; rintro e wx ⟨rfl, ap'⟩; replace ap := ap'; obtain ⟨l0, l1, l2, l3, l4, l5⟩ := ap.cfg.cells))
              go_roundw
              case rel => exact ⟨m + 1, by omega, by go_num, rfl, ap⟩
              case measure => simp [intOf]; omega
            · have hmm : m = D := by omega
              rw [hmm] at ap ⊢
              clear hm hmD hmm m
              rw [zent u] at ap
              go_wp2
              go_roundw
              case rel => exact ⟨_, _, _, _, _, _, _, _, _, _, _, _, _, _, _, _, _, _, _, _, _, _, _, _, _, _, _, _, _, _, _, _, _, _, _, _, _, _, _, _, _, _, _, _, _, _, ⟨u + 1, by omega, by go_num, rfl, ap⟩, rfl⟩
              case measure => simp [intOf]; omega
        · have huu : u = C := by omega
          rw [huu] at ap ⊢
          clear hu huC huu u
          go_wp2
          go_loopw [6, 9] (fun v i wr => ∃ t : Nat, t ≤ S ∧ i = .int .i64 t ∧ v = .bool true ∧ Ap w wr R S a C D g k (met C D B N C C C C 0 t t t 0)) (fun _ i _ => S - (intOf i).toNat)
          case atStart => exact ⟨0, Nat.zero_le _, rfl, rfl, ap⟩
          case round =>
            clear ap l0 l1 l2 l3 l4 l5
            obtain ⟨t, ht, rfl, rfl, ap⟩ := hrel
            obtain ⟨l0, l1, l2, l3, l4, l5⟩ := ap.cfg.cells
            by_cases htS : t < S
            · have d1 := hhead t htS
              have d2 := hlink t htS
              obtain ⟨P2, hP2⟩ : ∃ P, 4 + C + C * D + 2 * C + t * (2 + B) + 1 = P := ⟨_, rfl⟩
              rw [hP2] at d2
              obtain ⟨P1, hP1⟩ : ∃ P, 4 + C + C * D + 2 * C + t * (2 + B) = P := ⟨_, rfl⟩
              rw [hP1] at d1
              go_wp2_with (first
                | (go_at_call 18; with_reducible refine (d1 _).mono ?_; rintro e wx ⟨rfl, b⟩; replace ap := ap.below b; obtain ⟨l0, l1, l2, l3, l4, l5⟩ := ap.cfg.cells)
                | (go_at_call 19; with_reducible refine (d2 _).mono ?_; rintro e wx ⟨rfl, b⟩; replace ap := ap.below b; obtain ⟨l0, l1, l2, l3, l4, l5⟩ := ap.cfg.cells)
                | (go_at_call 28; with_reducible refine (mk_header hD1 hNe htS hP1 ap).mono ?_; rintro e wx ⟨rfl, ap'⟩; replace ap := ap'; obtain ⟨l0, l1, l2, l3, l4, l5⟩ := ap.cfg.cells)
                | (go_at_call 28; with_reducible refine (mk_link hD1 hNe htS hP2 ap).mono ?_; rintro e wx ⟨rfl, ap'⟩; replace ap := ap'; obtain ⟨l0, l1, l2, l3, l4, l5⟩ := ap.cfg.cells))
              clear d1 d2
              go_loopw [6, 10] (fun v i wr => ∃ n : Nat, n ≤ B ∧ i = .int .i64 n ∧ v = .bool true ∧ Ap w wr R S a C D g k (met C D B N C C C C 0 (t + 1) (t + 1) t n)) (fun _ i _ => B - (intOf i).toNat)
              case atStart => exact ⟨0, Nat.zero_le _, rfl, rfl, ap⟩
              case round =>
                clear ap l0 l1 l2 l3 l4 l5
                obtain ⟨n, hn, rfl, rfl, ap⟩ := hrel
                obtain ⟨l0, l1, l2, l3, l4, l5⟩ := ap.cfg.cells
                by_cases hnB : n < B
                · have d1 := hbody t n htS hnB
                  have d2 := hslot t n htS hnB
                  obtain ⟨P1, hP1⟩ : ∃ P, 4 + C + C * D + 2 * C + t * (2 + B) + (n + 2) = P := ⟨_, rfl⟩
                  rw [hP1] at d1 d2
                  go_upto_region 26 with (first
                    | (go_at_call 29; with_reducible refine (c29 _).mono ?_; rintro e wq ⟨rfl, b⟩; replace ap := ap.below b; obtain ⟨l0, l1, l2, l3, l4, l5⟩ := ap.cfg.cells))
                  clear l0 l1 l2 l3 l4 l5
                  replace ap := ap.below (Below.refl wq.heap.size wq).drew
                  go_region_held (fun w' => w'.cell? ⟨w.heap.size, 0, none⟩ = some (.int .i64 (S : Nat)) ∧ w'.cell? ⟨w.heap.size, 1, none⟩ = some (.int .i64 a) ∧ w'.cell? ⟨w.heap.size, 2, none⟩ = some (.int .i64 (C : Nat)) ∧ w'.cell? ⟨w.heap.size, 3, none⟩ = some (.int .i64 (D : Nat)) ∧ w'.cell? ⟨w.heap.size, 4, none⟩ = some (.int .i64 g) ∧ w'.cell? ⟨w.heap.size, 5, none⟩ = some (.int .i64 k)) (with_reducible exact ap.cfg.cells) (first
                    | (go_at_call 20; with_reducible refine (d1 _).mono ?_; rintro e wx ⟨rfl, b⟩; replace ap := ap.below b)
                    | (go_at_call 21; with_reducible refine (d2 _).mono ?_; rintro e wx ⟨rfl, b⟩; replace ap := ap.below b)
                    | (go_at_call 28; with_reducible refine (mk_body hD1 hNe htS hnB hP1 ap).mono ?_; rintro e wx ⟨rfl, ap'⟩; replace ap := ap'))
                  clear d1 d2
                  go_wp2
                  go_roundw
                  case rel => exact ⟨n + 1, by omega, by go_num, rfl, ap⟩
                  case measure => simp [intOf]; omega
                · have hnn : n = B := by omega
                  rw [hnn] at ap ⊢
                  clear hn hnB hnn n
                  rw [zbody t] at ap
                  go_wp2_with (first
                    | (go_at_call 29; with_reducible refine (c29 _).mono ?_; rintro e wx ⟨rfl, b⟩; replace ap := ap.below b; obtain ⟨l0, l1, l2, l3, l4, l5⟩ := ap.cfg.cells))
                  go_roundw
                  case rel => exact ⟨_, _, _, _, _, _, _, _, _, _, _, _, _, _, _, _, _, _, _, _, _, _, _, _, _, _, _, _, _, _, _, _, _, _, _, _, _, _, _, _, _, _, _, _, _, _, _, _, _, ⟨t + 1, by omega, by go_num, rfl, ap⟩, rfl⟩
                  case measure => simp [intOf]; omega
            · have htt : t = S := by omega
              rw [htt] at ap ⊢
              clear ht htS htt t
              go_wp2
              go_loopw [6, 11] (fun v i wr => ∃ j : Nat, j ≤ N ∧ i = .int .i64 j ∧ v = .bool true ∧ Ap w wr R S a C D g k (met C D B N C C C C 0 S S S 0)) (fun _ i _ => N - (intOf i).toNat)
              case atStart => exact ⟨0, Nat.zero_le _, rfl, rfl, ap⟩
              case round =>
                clear ap l0 l1 l2 l3 l4 l5
                obtain ⟨j, hj, rfl, rfl, ap⟩ := hrel
                by_cases hjN : j < N
                · have q := ints_at ap.ints j (by rw [met_len]; exact hjN)
                  rw [zend j hjN] at q
                  go_wp2
                  go_roundw
                  case rel => exact ⟨j + 1, by omega, by go_num, rfl, ap⟩
                  case measure => simp [intOf]; omega
                · have hjj : j = N := by omega
                  rw [hjj]
                  clear hj hjN hjj j
                  go_wp2_with (first
                    | (go_at_call 12; with_reducible refine (c12 _).mono ?_; rintro e wx ⟨rfl, b⟩; replace ap := ap.below b))
                  go_ret
                  exact ⟨rfl, ap.bel⟩
end Go.Proofs.Ytcpbfbdmfkhaeab
