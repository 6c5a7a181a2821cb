/- The law of machines whose work is done, walked. -/
import Derived.Test.YtpfcpkkillklkaaEAwake
import Derived.Test.YtpfcpkkillklkaaPFit
namespace Go.Proofs.Ytpfcpkkillklkaa
open Go.RowKit
open Mm (IsMem MS zeroMS)

/-- How far a Pin alone is. -/
def PinG (w : World) (P k ep n : Nat) : Prop := (n = 0 ∧ PinAt w P k 0 0 0) ∨ (n = 1 ∧ PinAt w P k 0 1 ep) ∨ (n = 2 ∧ PinAt w P k 0 2 ep) ∨ (3 ≤ n ∧ PinAt w P k ep 3 ep)
def pinsN (pins : Nat → Nat) (k ep n : Nat) : Nat → Nat := if 2 ≤ n then upd pins k (2 * ep + 1) else pins
theorem PinG.chg {L : List Nat} {w w' : World} {P k ep n : Nat} (h : PinG w P k ep n) (x : Chg L w w') (hn : P ∉ L) : PinG w' P k ep n := by
  rcases h with ⟨h0, h⟩ | ⟨h0, h⟩ | ⟨h0, h⟩ | ⟨h0, h⟩
  · exact .inl ⟨h0, h.chg x hn⟩
  · exact .inr (.inl ⟨h0, h.chg x hn⟩)
  · exact .inr (.inr (.inl ⟨h0, h.chg x hn⟩))
  · exact .inr (.inr (.inr ⟨h0, h.chg x hn⟩))
theorem PinG.done {w : World} {P k ep n : Nat} (h : PinG w P k ep n) (hn : 3 ≤ n) : PinAt w P k ep 3 ep := by
  rcases h with ⟨h0, h⟩ | ⟨h0, h⟩ | ⟨h0, h⟩ | ⟨h0, h⟩
  · omega
  · omega
  · omega
  · exact h
theorem pin_go {w : World} {M G P k : Nat} {K : Cf} {ep n : Nat} {pins : Nat → Nat} {T : Int} (hm : MemE w M G K ep (pinsN pins k ep n) T) (hp : PinG w P k ep n) (h1 : P ≠ M) (h2 : P ≠ G) (ht : 0 ≤ T ∧ T < 4611686018427387904) (hk : k < K.C) (he : ep < 4611686018427387904) (hn : n < 3) :
    Calls Try.prog 17 #[.pointer (some ⟨P, 0, none⟩), .pointer (some ⟨M, 0, none⟩)] w fun r w' => (∃ b, r = .returned (.bool b)) ∧ MemE w' M G K ep (pinsN pins k ep (n + 1)) (T + 1) ∧ PinG w' P k ep (n + 1) ∧ Chg [P, M, G] w w' := by
  rcases hp with ⟨rfl, h⟩ | ⟨rfl, h⟩ | ⟨rfl, h⟩ | ⟨h0, h⟩
  · exact (pinE_0 hm h h1 h2 ht).mono fun _ _ ⟨hr, hm', hp', hc⟩ => ⟨⟨_, hr⟩, hm', .inr (.inl ⟨rfl, hp'⟩), hc⟩
  · exact (pinE_1 hm h h1 h2 ht hk he).mono fun _ _ ⟨hr, hm', hp', hc⟩ => ⟨⟨_, hr⟩, hm', .inr (.inr (.inl ⟨rfl, hp'⟩)), hc⟩
  · exact (pinE_2y hm h h1 h2 ht).mono fun _ _ ⟨hr, hm', hp', hc⟩ => ⟨⟨_, hr⟩, hm', .inr (.inr (.inr ⟨by omega, hp'⟩)), hc⟩
  · omega
theorem AdvG.end {w : World} {P : Nat} {K : Cf} {ep n : Nat} (h : AdvG w P K ep n) (hn : K.C + 2 ≤ n) : ∃ e wh, AdvAt w P K (ep + 1) 3 e wh := by
  rcases h with ⟨h0, E, e, wh, h⟩ | ⟨h0, h1, E, h⟩ | ⟨h0, E, wh, h⟩ | ⟨h0, h⟩
  · omega
  · omega
  · omega
  · exact h

set_option maxHeartbeats 8000000 in
theorem done_law (s a c d g k who : Int) (hn : 0 ≤ who ∧ who ≤ 255) (w : World) : Calls Try.prog 6 #[.agg (cs s a c d g k), .int .u8 who] w fun e w' => e = .returned (.bool true) ∧ Below w.heap.size w w' := by
  have cf := Fit_any s a c d g k
  have bel := alloc_below w (.cells #[.int .i64 s, .int .i64 a, .int .i64 c, .int .i64 d, .int .i64 g, .int .i64 k] 23)
  have hh := cfg_new w s a c d g k
  go_enter Try.func6, Try.ntmps6
  go_upto_region 1 with fail
  generalize w.alloc (.cells #[.int .i64 s, .int .i64 a, .int .i64 c, .int .i64 d, .int .i64 g, .int .i64 k] 23) = w1 at *
  obtain ⟨l0, l1, l2, l3, l4, l5⟩ := hh.cells
  go_upto_region 2 with (first
    | (go_at_call 8; refine (cf _).mono ?_; rintro e w2 ⟨⟨s', a', c', d', g', k', rfl, hs, ha, hc, hd, hg, hk⟩, b⟩; replace bel := seq_below bel b; replace hh := hh.below b; obtain ⟨l0, l1, l2, l3, l4, l5⟩ := hh.cells; have y0 := hh.free 0; have y1 := hh.free 1; have y2 := hh.free 2; have y3 := hh.free 3; have y4 := hh.free 4; have y5 := hh.free 5))
  have h3 := cfg_stored6 hh s' a' c' d' g' k'
  have bel3 := below_stored6 bel (Nat.le_refl w.heap.size) (.int .i64 s') (.int .i64 a') (.int .i64 c') (.int .i64 d') (.int .i64 g') (.int .i64 k')
  clear l0 l1 l2 l3 l4 l5 y0 y1 y2 y3 y4 y5 hh bel cf
  generalize ((((((w2.setCell ⟨w.heap.size, 0, none⟩ (.int .i64 s')).setCell ⟨w.heap.size, 1, none⟩ (.int .i64 a')).setCell ⟨w.heap.size, 2, none⟩ (.int .i64 c')).setCell ⟨w.heap.size, 3, none⟩ (.int .i64 d')).setCell ⟨w.heap.size, 4, none⟩ (.int .i64 g')).setCell ⟨w.heap.size, 5, none⟩ (.int .i64 k')) = w3 at *
  have hr : rightB s' a' c' d' g' k' = true := rightB_iff.2 (by omega)
  clear ha hd hg hk
  obtain ⟨K, hK, rfl, rfl, rfl, rfl, rfl, rfl⟩ := Cf.of_right hr
  have hC4 : 1 ≤ K.C ∧ K.C ≤ 4 := by omega
  have hS12 : 1 ≤ K.S ∧ K.S ≤ 12 := by omega
  clear hs hc b
  have c10 := memory_E hK
  have hlt3 := h3.lt
  have hh := h3
  have bel := bel3
  clear h3 bel3 hr
  obtain ⟨l0, l1, l2, l3, l4, l5⟩ := hh.cells
  go_upto_region 3 with (first
    | (go_at_call 9; refine (c10 _).mono ?_; rintro e w4 ⟨M, G, rfl, hm, hM, hG, hb⟩))
  have lo : Lo w w4 K M G 0 (fun _ => 0) 0 := ⟨hm, hh.below hb, seq_below bel hb, by omega, by omega⟩
  clear l0 l1 l2 l3 l4 l5 hm hM hG hb hh bel hlt3 c10
  obtain ⟨l0, l1, l2, l3, l4, l5⟩ := lo.cfg.cells
  obtain ⟨j, hj⟩ : ∃ j : Nat, who % (K.C : Int) = (j : Int) := Int.eq_ofNat_of_zero_le (Int.emod_nonneg _ (by omega))
  have hjC : j < K.C := by have := Int.emod_lt_of_pos who (by omega : (0 : Int) < (K.C : Int)); omega
  have c16 := newPin_K hK j hjC
  have c18 := newLeave_K hK j hjC
  have c11 := newAdv_K hK
  go_upto_region 4 with fail
  rw [hj]
  clear hj hn
  clear l0 l1 l2 l3 l4 l5
  replace lo := lo.drew
  have hM := lo.hM
  have hG := lo.hG
  go_region_held (fun wr => wr.cell? ⟨w.heap.size, 0, none⟩ = some (.int .i64 (K.S : Nat)) ∧ wr.cell? ⟨w.heap.size, 1, none⟩ = some (.int .i64 K.a) ∧ wr.cell? ⟨w.heap.size, 2, none⟩ = some (.int .i64 (K.C : Nat)) ∧ wr.cell? ⟨w.heap.size, 3, none⟩ = some (.int .i64 (K.D : Nat)) ∧ wr.cell? ⟨w.heap.size, 4, none⟩ = some (.int .i64 K.g) ∧ wr.cell? ⟨w.heap.size, 5, none⟩ = some (.int .i64 K.k)) (exact lo.cfg.cells) (first
    | (go_at_call 16; with_reducible refine (c16 _).mono ?_; rintro e w3 ⟨P, rfl, hp, hP, hb⟩; have hz1 := lo.mem.lt; have hy1 := lo.lt; replace lo := lo.below hb)
    | (go_at_call 11; with_reducible refine (c11 _).mono ?_; rintro e w3 ⟨A, rfl, ha, hA, hb⟩; have hz2 := hp.lt; have hy2 := lo.mem.lt; replace hp := hp.below hb; replace lo := lo.below hb)
    | (go_at_call 18; with_reducible refine (c18 _).mono ?_; rintro e w3 ⟨B, rfl, hl, hB, hb⟩; have hz3 := ha.lt; have hz4 := hp.lt; have hz5 := lo.mem.lt; replace ha := ha.below hb; replace hp := hp.below hb; replace lo := lo.below hb))
  have hne : P ≠ M ∧ P ≠ G ∧ A ≠ M ∧ A ≠ G ∧ B ≠ M ∧ B ≠ G ∧ P ≠ A ∧ P ≠ B ∧ A ≠ B := by omega
  have hbb2 : w.heap.size + 1 ≤ P ∧ w.heap.size + 1 ≤ A ∧ w.heap.size + 1 ≤ B := by omega
  obtain ⟨n1, n2, n3, n4, n5, n6, n7, n8, n9⟩ := hne
  obtain ⟨m1, m2, m3⟩ := hbb2
  replace ha : AdvG w3 A K 0 0 := AdvG.new ha
  replace hp : PinG w3 P j 0 0 := .inl ⟨rfl, hp⟩
  clear c16 c18 c11 hz1 hy1 hz2 hy2 hz3 hz4 hz5 hP hA hB
  go_wp2
  go_loopw [10] (fun i wr => ∃ n : Nat, n ≤ 3 ∧ i = .int .i64 n ∧ Lo w wr K M G 0 (pinsN (fun _ => 0) j 0 n) n ∧ PinG wr P j 0 n ∧ AdvG wr A K 0 0 ∧ LeaveAt wr B j 0) (fun i _ => 3 - (intOf i).toNat)
  case atStart => exact ⟨0, Nat.zero_le _, rfl, lo, hp, ha, hl⟩
  case round =>
    clear lo hp ha hl
    obtain ⟨n, hn, rfl, lo, hp, ha, hl⟩ := hrel
    by_cases hn3 : n < 3
    · have c0 := pin_go lo.mem hp n1 n2 (by omega) hjC (by omega) hn3
      go_wp2_with (first
        | (go_at_call 17; with_reducible refine c0.mono ?_; rintro e w4 ⟨⟨b, rfl⟩, hm, hp2, ch⟩))
      go_roundw
      case rel => exact ⟨n + 1, by omega, by go_num, lo.chg ch m1 hm, hp2, ha.chg ch (by simp [Ne.symm n7, n3, n4]), hl.chg ch (by simp [Ne.symm n8, n5, n6])⟩
      case measure => simp [intOf]; omega
    · have hnn : n = 3 := by omega
      subst hnn
      replace hp := hp.done (by omega)
      rw [show pinsN (fun _ => 0) j 0 3 = upd (fun _ => 0) j 1 from rfl] at lo
      have hv : ∀ x, x < K.C → upd (fun _ => 0) j 1 x = 0 ∨ upd (fun _ => 0) j 1 x = 2 * 0 + 1 := fun x _ => by
        unfold upd; split <;> simp
      generalize upd (fun _ => 0) j 1 = pins at *
      obtain ⟨l0, l1, l2, l3, l4, l5⟩ := lo.cfg.cells
      go_wp2
      go_loopw [11] (fun i wr => ∃ n : Nat, n ≤ K.C + 2 ∧ i = .int .i64 n ∧ Lo w wr K M G (epo K 0 n) pins (3 + n) ∧ PinAt wr P j 0 3 0 ∧ AdvG wr A K 0 n ∧ LeaveAt wr B j 0) (fun i _ => K.C + 2 - (intOf i).toNat)
      case atStart => exact ⟨0, Nat.zero_le _, rfl, lo, hp, ha, hl⟩
      case round =>
        clear lo hp ha hl l0 l1 l2 l3 l4 l5 hn hn3
        obtain ⟨n, hn, rfl, lo, hp, ha, hl⟩ := hrel
        obtain ⟨l0, l1, l2, l3, l4, l5⟩ := lo.cfg.cells
        by_cases hnC : n < K.C + 2
        · have c0 := adv_go hK lo.mem ha n3 n4 (by omega) (by omega) (by omega) hv
          rw [if_neg (by omega)] at c0
          go_wp2_with (first
            | (go_at_call 14; with_reducible refine c0.mono ?_; rintro e w4 ⟨rfl, hm, ha2, ch⟩))
          go_roundw
          case rel => exact ⟨_, _, _, _, _, _, _, _, _, _, _, ⟨n + 1, by omega, by go_num, by rw [show (3 + ((n + 1 : Nat) : Int)) = 3 + (n : Int) + 1 by omega]; exact lo.chg ch m2 hm, hp.chg ch (by simp [n7, n1, n2]), ha2, hl.chg ch (by simp [Ne.symm n9, n5, n6])⟩, rfl⟩
          case measure => simp [intOf]; omega
        · have hnn : n = K.C + 2 := by omega
          subst hnn
          obtain ⟨e1, wh1, ha⟩ := ha.end (by omega)
          have c19 := leaveE_0 lo.mem hl n5 n6 (by omega) hjC
          have c10 := awake_any
          generalize epo K 0 (K.C + 2) = ep at *
          obtain ⟨T, hT⟩ : ∃ T : Int, (3 + ((K.C + 2 : Nat) : Int)) + 1 = T := ⟨_, rfl⟩
          rw [hT] at c19
          clear hT hn hnC
          go_upto_region 17 with (first
            | (go_at_call 19; with_reducible refine c19.mono ?_; rintro e w4 ⟨rfl, hm, hl2, ch⟩; replace lo := lo.chg ch m3 hm; replace hp := hp.chg ch (by simp [n8, n1, n2]); replace ha := ha.chg ch (by simp [n9, n3, n4])))
          have c13 := touches_E lo.mem
          have c17 := pin_3 (M := M) hp
          have c14 := adv_3 (M := M) ha
          have c19 := leave_1 (M := M) hl2
          go_wp2_with (first
            | (go_at_call 13; with_reducible refine c13.mono ?_; rintro e w5 ⟨rfl, rfl⟩)
            | (go_at_call 17; with_reducible refine c17.mono ?_; rintro e w5 ⟨rfl, rfl⟩)
            | (go_at_call 14; with_reducible refine c14.mono ?_; rintro e w5 ⟨rfl, rfl⟩)
            | (go_at_call 19; with_reducible refine c19.mono ?_; rintro e w5 ⟨rfl, rfl⟩)
            | (go_at_call 10; with_reducible refine (c10 _).mono ?_; rintro e w5 ⟨rfl, hb⟩; replace lo := lo.below hb))
          go_ret
          exact ⟨rfl, lo.bel⟩
end Go.Proofs.Ytpfcpkkillklkaa
