/- The law of an epoch that moves while one pins itself, walked. -/
import Derived.Test.YtpfcpkkillklkaaEAwake
import Derived.Test.YtpfcpkkillklkaaPFit
namespace Go.Proofs.Ytpfcpkkillklkaa
open Go.RowKit
open Mm (IsMem MS zeroMS)

set_option maxHeartbeats 8000000 in
theorem moves_law (s a c d g k n : Int) (hn : 0 ≤ n ∧ n ≤ 255) (w : World) : Calls Try.prog 5 #[.agg (cs s a c d g k), .int .u8 n] w fun e w' => e = .returned (.bool true) ∧ Below w.heap.size w w' := by
  have hq0 : 0 ≤ n % 7 ∧ n % 7 < 7 := by omega
  have cf := Fit_any s a c d g k
  have bel := alloc_below w (.cells #[.int .i64 s, .int .i64 a, .int .i64 c, .int .i64 d, .int .i64 g, .int .i64 k] 23)
  have hh := cfg_new w s a c d g k
  go_enter Try.func5, Try.ntmps5
  go_upto_region 1 with fail
  generalize w.alloc (.cells #[.int .i64 s, .int .i64 a, .int .i64 c, .int .i64 d, .int .i64 g, .int .i64 k] 23) = w1 at *
  obtain ⟨l0, l1, l2, l3, l4, l5⟩ := hh.cells
  go_upto_region 2 with (first
    | (go_at_call 8; refine (cf _).mono ?_; rintro e w2 ⟨⟨s', a', c', d', g', k', rfl, hs, ha, hc, hd, hg, hk⟩, b⟩; replace bel := seq_below bel b; replace hh := hh.below b; obtain ⟨l0, l1, l2, l3, l4, l5⟩ := hh.cells; have y0 := hh.free 0; have y1 := hh.free 1; have y2 := hh.free 2; have y3 := hh.free 3; have y4 := hh.free 4; have y5 := hh.free 5))
  have h3 := cfg_stored6 hh s' a' c' d' g' k'
  have bel3 := below_stored6 bel (Nat.le_refl w.heap.size) (.int .i64 s') (.int .i64 a') (.int .i64 c') (.int .i64 d') (.int .i64 g') (.int .i64 k')
  clear l0 l1 l2 l3 l4 l5 y0 y1 y2 y3 y4 y5 hh bel cf
  generalize ((((((w2.setCell ⟨w.heap.size, 0, none⟩ (.int .i64 s')).setCell ⟨w.heap.size, 1, none⟩ (.int .i64 a')).setCell ⟨w.heap.size, 2, none⟩ (.int .i64 c')).setCell ⟨w.heap.size, 3, none⟩ (.int .i64 d')).setCell ⟨w.heap.size, 4, none⟩ (.int .i64 g')).setCell ⟨w.heap.size, 5, none⟩ (.int .i64 k')) = w3 at *
  have hr : rightB s' a' c' d' g' k' = true := rightB_iff.2 (by omega)
  clear ha hd hg hk
  obtain ⟨K, hK, rfl, rfl, rfl, rfl, rfl, rfl⟩ := Cf.of_right hr
  have hC4 : 1 ≤ K.C ∧ K.C ≤ 4 := by omega
  have hS12 : 1 ≤ K.S ∧ K.S ≤ 12 := by omega
  clear hs hc b
  have c10 := memory_E hK
  have hlt3 := h3.lt
  have hh := h3
  have bel := bel3
  clear h3 bel3 hr
  obtain ⟨l0, l1, l2, l3, l4, l5⟩ := hh.cells
  go_upto_region 3 with (first
    | (go_at_call 9; refine (c10 _).mono ?_; rintro e w4 ⟨M, G, rfl, hm, hM, hG, hb⟩))
  have lo : Lo w w4 K M G 0 (fun _ => 0) 0 := ⟨hm, hh.below hb, seq_below bel hb, by omega, by omega⟩
  clear l0 l1 l2 l3 l4 l5 hm hM hG hb hh bel hlt3 c10
  obtain ⟨l0, l1, l2, l3, l4, l5⟩ := lo.cfg.cells
  have c16 := newPin_K hK 0 (by omega)
  rw [show ((0 : Nat) : Int) = 0 from rfl] at c16
  go_upto_region 4 with (first
    | (go_at_call 16; refine (c16 _).mono ?_; rintro e w5 ⟨P, rfl, hp, hP, hb⟩))
  have hl := lo.lt
  have hne : P ≠ M ∧ P ≠ G := by have := lo.mem.lt; omega
  have hP1 : w.heap.size + 1 ≤ P := by omega
  replace lo := lo.below hb
  clear l0 l1 l2 l3 l4 l5 hb c16 hP hl
  obtain ⟨n1, n2⟩ := hne
  have q1 := pinE_0 lo.mem hp n1 n2 (by omega)
  go_upto_region 6 with (first
    | (go_at_call 17; with_reducible refine q1.mono ?_; rintro e w6 ⟨rfl, hm4, hp4, ch⟩; replace lo := lo.chg ch hP1 hm4))
  clear q1 ch hp hm4
  go_wp2
  go_loopw [7] (fun i wr => ∃ j : Nat, (j : Int) ≤ n % 7 ∧ i = .int .i64 j ∧ (∃ pins, Lo w wr K M G j pins (1 + 3 * j)) ∧ PinAt wr P 0 0 1 j) (fun i _ => 7 - (intOf i).toNat)
  case atStart => exact ⟨0, by omega, rfl, ⟨_, lo⟩, hp4⟩
  case round =>
    clear lo hp4
    obtain ⟨j, hj, rfl, ⟨pins, lo⟩, hp⟩ := hrel
    by_cases hjn : (j : Int) < n % 7
    · have c20 := addE lo.mem (by omega) (by omega)
      rw [show ((j + 1 : Nat) : Int) = (j : Int) + 1 by omega] at c20
      go_wp2_with (first
        | (go_at_call 20; with_reducible refine c20.mono ?_; rintro e w7 ⟨rfl, hm, ch⟩; replace lo := lo.chg2 ch hm; replace hp := hp.chg ch (by simp [n1, n2]); have r1 := pinE_1 lo.mem hp n1 n2 (by omega) (by omega) (by omega))
        | (go_at_call 17; with_reducible refine r2.mono ?_; rintro e w9 ⟨rfl, hm, hp3, ch⟩; replace lo := lo.chg ch hP1 hm)
        | (go_at_call 17; with_reducible refine r1.mono ?_; rintro e w8 ⟨rfl, hm, hp2, ch⟩; replace lo := lo.chg ch hP1 hm; have r2 := pinE_2n lo.mem hp2 n1 n2 (by omega) (by omega)))
      go_roundw
      case rel => exact ⟨j + 1, by omega, by go_num, ⟨_, by rw [show (1 + 3 * ((j + 1 : Nat) : Int)) = 1 + 3 * (j : Int) + 1 + 1 + 1 by omega]; exact lo⟩, hp3⟩
      case measure => simp [intOf]; omega
    · have hjq : n % 7 = (j : Int) := by omega
      have r1 := pinE_1 lo.mem hp n1 n2 (by omega) (by omega) (by omega)
      have c22 := pin_any hK 0 (by omega)
      rw [show ((0 : Nat) : Int) = 0 from rfl] at c22
      have c10 := awake_any
      have hj7 : j < 7 := by omega
      have c21 : ∀ wq, Lo w wq K M G j (upd pins 0 (2 * j + 1)) (1 + 3 * j + 1 + 1) → Calls Try.prog 21 #[.pointer (some ⟨M, 0, none⟩), .int .i64 ((4 + 0 : Nat) : Int)] wq fun r w' => r = .returned (.int .u64 (2 * (j : Int) + 1)) ∧ MemE w' M G K j (upd pins 0 (2 * j + 1)) (1 + 3 * j + 1 + 1 + 1) ∧ Chg [M, G] wq w' := fun wq h => by
        have := loadE (k := 0) h.mem (by omega) (by omega)
        rw [upd_same, show ((2 * j + 1 : Nat) : Int) = 2 * (j : Int) + 1 by omega] at this
        exact this
      generalize ((4 + 0 : Nat) : Int) = pl at *
      go_wp2_with (first
        | (go_at_call 17; with_reducible refine r2.mono ?_; rintro e w9 ⟨rfl, hm, hp3, ch⟩; replace lo := lo.chg ch hP1 hm; have z0 := hp3.cells.1; obtain ⟨l0, l1, l2, l3, l4, l5⟩ := lo.cfg.cells)
        | (go_at_call 17; with_reducible refine r1.mono ?_; rintro e w8 ⟨rfl, hm, hp2, ch⟩; replace lo := lo.chg ch hP1 hm; have r2 := pinE_2y lo.mem hp2 n1 n2 (by omega))
        | (go_at_call 22; with_reducible refine (c22 _).mono ?_; rintro e w4 ⟨rfl, hb⟩; replace lo := lo.below hb)
        | (go_at_call 21; with_reducible refine (c21 _ lo).mono ?_; rintro e w5 ⟨rfl, hm, ch⟩; replace lo := lo.chg2 ch hm)
        | (go_at_call 10; with_reducible refine (c10 _).mono ?_; rintro e w5 ⟨rfl, hb⟩; replace lo := lo.below hb))
      go_ret
      exact ⟨rfl, lo.bel⟩
end Go.Proofs.Ytpfcpkkillklkaa
