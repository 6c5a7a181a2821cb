/- The document's example, walked; what is known of a law's world. -/
import Derived.Test.YtpfcpkkillklkaaERun
namespace Go.Proofs.Ytpfcpkkillklkaa
open Go.RowKit
open Mm (IsMem MS touched Only zeroMS)

/-- What is known of the world within a law. -/
structure Lo (w wr : World) (K : Cf) (M G ep : Nat) (pins : Nat → Nat) (T : Int) : Prop where
  mem : MemE wr M G K ep pins T
  cfg : IsCfg wr w.heap.size K.S K.a K.C K.D K.g K.k
  bel : Below w.heap.size w wr
  hM : w.heap.size + 1 ≤ M
  hG : w.heap.size + 1 ≤ G

theorem Lo.below {w wr w1 : World} {K : Cf} {M G ep : Nat} {pins : Nat → Nat} {T : Int} (h : Lo w wr K M G ep pins T) (b : Below wr.heap.size wr w1) : Lo w w1 K M G ep pins T :=
  ⟨h.mem.below b, h.cfg.below b, h.bel.trans (b.mono h.bel.size), h.hM, h.hG⟩
theorem Lo.drew {w wr : World} {K : Cf} {M G ep : Nat} {pins : Nat → Nat} {T : Int} (h : Lo w wr K M G ep pins T) : Lo w wr.drew K M G ep pins T := h.below (Below.refl _ _).drew
theorem Lo.chg {w wr w1 : World} {K : Cf} {M G P ep ep' : Nat} {pins pins' : Nat → Nat} {T T' : Int} (h : Lo w wr K M G ep pins T) (b : Chg [P, M, G] wr w1) (hP : w.heap.size + 1 ≤ P) (hm : MemE w1 M G K ep' pins' T') : Lo w w1 K M G ep' pins' T' :=
  ⟨hm, h.cfg.chg b (by have := h.hM; have := h.hG; simp; omega), b.below h.bel (by have := h.hM; have := h.hG; simp; omega) (Nat.le_refl _), h.hM, h.hG⟩
theorem Lo.chg2 {w wr w1 : World} {K : Cf} {M G ep ep' : Nat} {pins pins' : Nat → Nat} {T T' : Int} (h : Lo w wr K M G ep pins T) (b : Chg [M, G] wr w1) (hm : MemE w1 M G K ep' pins' T') : Lo w w1 K M G ep' pins' T' :=
  ⟨hm, h.cfg.chg b (by have := h.hM; have := h.hG; simp; omega), b.below h.bel (by have := h.hM; have := h.hG; simp; omega) (Nat.le_refl _), h.hM, h.hG⟩
theorem Lo.lt {w wr : World} {K : Cf} {M G ep : Nat} {pins : Nat → Nat} {T : Int} (h : Lo w wr K M G ep pins T) : w.heap.size + 1 ≤ wr.heap.size := h.cfg.lt

def K0 : Cf := ⟨1, 0, 1, 1, 1, 0, 3⟩
theorem K0_ok : K0.Ok := ⟨by decide, by decide, by decide, by decide, by decide, by decide, by decide, by decide⟩

theorem adv_three {w : World} {M G P : Nat} {pins : Nat → Nat} {T : Int} (hm : MemE w M G K0 0 pins T) (hp : AdvG w P K0 0 0) (h1 : P ≠ M) (h2 : P ≠ G) (ht : 0 ≤ T ∧ T + 3 < 4611686018427387904) (hv : pins 0 = 1) :
    Calls Try.prog 14 #[.pointer (some ⟨P, 0, none⟩), .pointer (some ⟨M, 0, none⟩)] w fun r w1 => r = .returned (.bool false) ∧
      Calls Try.prog 14 #[.pointer (some ⟨P, 0, none⟩), .pointer (some ⟨M, 0, none⟩)] w1 fun r w2 => r = .returned (.bool false) ∧
        Calls Try.prog 14 #[.pointer (some ⟨P, 0, none⟩), .pointer (some ⟨M, 0, none⟩)] w2 fun r w3 => r = .returned (.bool true) ∧
          MemE w3 M G K0 1 pins (T + 3) ∧ AdvG w3 P K0 0 3 ∧ Chg [P, M, G] w w3 := by
  have hv' : ∀ j, j < K0.C → pins j = 0 ∨ pins j = 2 * 0 + 1 := fun j hj => by
    have : j = 0 := by have : j < 1 := hj; omega
    subst this; exact .inr hv
  refine (adv_go K0_ok (ep := 0) (n := 0) hm hp h1 h2 (by omega) (by decide) (by decide) hv').mono fun _ _ ⟨hr, hm1, hp1, hc1⟩ => ⟨hr, ?_⟩
  refine (adv_go K0_ok (ep := 0) (n := 1) hm1 hp1 h1 h2 (by rw [if_neg (by decide)]; omega) (by decide) (by decide) hv').mono fun _ _ ⟨hr, hm2, hp2, hc2⟩ => ⟨hr, ?_⟩
  refine (adv_go K0_ok (ep := 0) (n := 2) hm2 hp2 h1 h2 (by rw [if_neg (by decide), if_neg (by decide)]; omega) (by decide) (by decide) hv').mono fun _ _ ⟨hr, hm3, hp3, hc3⟩ => ⟨hr, ?_, hp3, (hc1.trans hc2).trans hc3⟩
  rw [if_neg (by decide), if_neg (by decide), if_neg (by decide)] at hm3
  rw [show T + 3 = T + 1 + 1 + 1 by omega]
  exact hm3

set_option maxHeartbeats 4000000 in
theorem awake_any (w : World) : Calls Try.prog 10 #[] w fun e w' => e = .returned (.bool true) ∧ Below w.heap.size w w' := by
  have c1 : ∀ w, Calls Try.prog 9 #[.agg (cs 1 0 1 1 1 0)] w fun e w' => ∃ M G, e = .returned (.pointer (some ⟨M, 0, none⟩)) ∧ MemE w' M G K0 0 (fun _ => 0) 0 ∧ w.heap.size ≤ M ∧ w.heap.size ≤ G ∧ Below w.heap.size w w' := memory_E K0_ok
  have c2 : ∀ w, Calls Try.prog 16 #[.agg (cs 1 0 1 1 1 0), .int .i64 0] w fun e w' => ∃ P, e = .returned (.pointer (some ⟨P, 0, none⟩)) ∧ PinAt w' P 0 0 0 0 ∧ w.heap.size ≤ P ∧ Below w.heap.size w w' := newPin_K K0_ok 0 (by decide)
  have c3 : ∀ w, Calls Try.prog 11 #[.agg (cs 1 0 1 1 1 0)] w fun e w' => ∃ P, e = .returned (.pointer (some ⟨P, 0, none⟩)) ∧ AdvAt w' P K0 0 0 0 0 ∧ w.heap.size ≤ P ∧ Below w.heap.size w w' := newAdv_K K0_ok
  have c4 : ∀ w, Calls Try.prog 22 #[.agg (cs 1 0 1 1 1 0), .int .i64 0] w fun e w' => e = .returned (.int .i64 4) ∧ Below w.heap.size w w' := pin_any K0_ok 0 (by decide)
  have bel := alloc_below w (.cells #[.int .i64 1, .int .i64 0, .int .i64 1, .int .i64 1, .int .i64 1, .int .i64 0] 23)
  have hh := cfg_new w 1 0 1 1 1 0
  go_enter Try.func10, Try.ntmps10
  go_upto_region 2 with fail
  generalize w.alloc (.cells #[.int .i64 1, .int .i64 0, .int .i64 1, .int .i64 1, .int .i64 1, .int .i64 0] 23) = w0 at *
  have hlt := hh.lt
  obtain ⟨l0, l1, l2, l3, l4, l5⟩ := hh.cells
  go_upto_region 3 with (first
    | (go_at_call 9; refine (c1 _).mono ?_; rintro e w1 ⟨M, G, rfl, hm, hM, hG, hb⟩))
  have lo : Lo w w1 K0 M G 0 (fun _ => 0) 0 := ⟨hm, hh.below hb, seq_below bel hb, by omega, by omega⟩
  clear l0 l1 l2 l3 l4 l5 hb hlt c1 hm hh bel hM hG
  replace lo := lo.drew
  have hM := lo.hM
  have hG := lo.hG
  go_region_held (fun wr => wr.cell? ⟨w.heap.size, 0, none⟩ = some (.int .i64 1) ∧ wr.cell? ⟨w.heap.size, 1, none⟩ = some (.int .i64 0) ∧ wr.cell? ⟨w.heap.size, 2, none⟩ = some (.int .i64 1) ∧ wr.cell? ⟨w.heap.size, 3, none⟩ = some (.int .i64 1) ∧ wr.cell? ⟨w.heap.size, 4, none⟩ = some (.int .i64 1) ∧ wr.cell? ⟨w.heap.size, 5, none⟩ = some (.int .i64 0)) (exact lo.cfg.cells) (first
    | (go_at_call 16; with_reducible refine (c2 _).mono ?_; rintro e w3 ⟨P, rfl, hp, hP, hb⟩; have hz1 := lo.mem.lt; have hy1 := lo.lt; replace lo := lo.below hb)
    | (go_at_call 11; with_reducible refine (c3 _).mono ?_; first | (rintro e w3 ⟨B, rfl, hbb, hB, hb⟩; have hz3 := ha.lt; have hz4 := hp.lt; have hz5 := lo.mem.lt; replace ha := ha.below hb; replace hp := hp.below hb; replace lo := lo.below hb) | (rintro e w3 ⟨A, rfl, ha, hA, hb⟩; have hz2 := hp.lt; have hy2 := lo.mem.lt; replace hp := hp.below hb; replace lo := lo.below hb)))
  have hne : P ≠ M ∧ P ≠ G ∧ A ≠ M ∧ A ≠ G ∧ B ≠ M ∧ B ≠ G ∧ P ≠ A ∧ P ≠ B ∧ A ≠ B := by omega
  have hbb2 : w.heap.size + 1 ≤ P ∧ w.heap.size + 1 ≤ A ∧ w.heap.size + 1 ≤ B := by omega
  obtain ⟨n1, n2, n3, n4, n5, n6, n7, n8, n9⟩ := hne
  obtain ⟨m1, m2, m3⟩ := hbb2
  replace ha : AdvG w3 A K0 0 0 := AdvG.new ha
  replace hbb : AdvG w3 B K0 1 0 := AdvG.new hbb
  clear c2 c3 hz1 hy1 hz2 hy2 hz3 hz4 hz5 hP hA hB
  have q1 := pin_alone lo.mem hp n1 n2 (by omega) (by decide) (by decide)
  clear hp
  go_upto_region 6 with (first
    | (go_at_call 17; with_reducible refine q3.mono ?_; rintro e w6 ⟨rfl, hm4, hp4, ch⟩; replace lo := lo.chg ch m1 hm4; replace ha := ha.chg ch (by simp [Ne.symm n7, n3, n4]); replace hbb := hbb.chg ch (by simp [Ne.symm n8, n5, n6]); have r1 := adv_three lo.mem ha n3 n4 (by omega) rfl)
    | (go_at_call 17; with_reducible refine q2.mono ?_; rintro e w5 ⟨rfl, q3⟩)
    | (go_at_call 17; with_reducible refine q1.mono ?_; rintro e w4 ⟨rfl, q2⟩)
    | (go_at_call 14; with_reducible refine r3.mono ?_; rintro e w9 ⟨rfl, hm5, ha5, ch2⟩; replace lo := lo.chg ch2 m2 hm5; replace hp4 := hp4.chg ch2 (by simp [n7, n1, n2]); replace hbb := hbb.chg ch2 (by simp [Ne.symm n9, n5, n6]))
    | (go_at_call 14; with_reducible refine r2.mono ?_; rintro e w8 ⟨rfl, r3⟩)
    | (go_at_call 14; with_reducible refine r1.mono ?_; rintro e w7 ⟨rfl, r2⟩))
  clear q1 q2 q3 r1 r2 r3 ch ch2 hm4 hm5 ha
  obtain ⟨pins, hpins⟩ : ∃ pins, upd (fun _ => 0) 0 (2 * 0 + 1) = pins := ⟨_, rfl⟩
  have hv : pins 0 = 1 := by rw [← hpins]; rfl
  rw [hpins] at lo
  clear hpins
  obtain ⟨T, hT, hTT⟩ : ∃ T : Int, 0 + 3 + 3 = T ∧ T = 6 := ⟨_, rfl, rfl⟩
  rw [hT] at lo
  clear hT
  go_wp2
  go_loopw [6] (fun i wr => ∃ n : Nat, n ≤ 9 ∧ i = .int .i64 n ∧ Lo w wr K0 M G 1 pins (6 + n) ∧ PinAt wr P 0 0 3 0 ∧ AdvG wr A K0 0 3 ∧ ∃ n', n' ≤ 1 ∧ AdvG wr B K0 1 n') (fun i _ => 9 - (intOf i).toNat)
  case atStart => exact ⟨0, Nat.zero_le _, rfl, by rw [hTT] at lo; exact lo, hp4, ha5, 0, by omega, hbb⟩
  case round =>
    clear lo hp4 ha5 hbb hTT T
    obtain ⟨n, hn, rfl, lo, hp, ha, n', hn', hb⟩ := hrel
    by_cases hn9 : n < 9
    · have c0 := adv_stay K0_ok (k := 0) lo.mem hb n5 n6 (by omega) (by decide) (by decide) (by omega) (fun j hj => by omega) (by omega) (by omega)
      go_wp2_with (first
        | (go_at_call 14; with_reducible refine c0.mono ?_; rintro e w4 ⟨rfl, hm, ⟨n2', hn2, hb2⟩, ch⟩))
      go_roundw
      case rel => exact ⟨n + 1, by omega, by go_num, by rw [show (6 + ((n + 1 : Nat) : Int)) = 6 + (n : Int) + 1 by omega]; exact lo.chg ch m3 hm, hp.chg ch (by simp [n8, n1, n2]), ha.chg ch (by simp [n9, n3, n4]), n2', by omega, hb2⟩
      case measure => simp [intOf]; omega
    · have hn99 : n = 9 := by omega
      subst hn99
      have z0 := hp.cells.1
      have z1 := ha.done (by decide)
      have z2 : wr.cell? ⟨A, 0, none⟩ = some (.int .u64 1) := z1
      have z3 : wr.cell? ⟨P, 0, none⟩ = some (.int .u64 0) := z0
      clear z0 z1
      obtain ⟨l0, l1, l2, l3, l4, l5⟩ := lo.cfg.cells
      replace l0 : wr.cell? ⟨w.heap.size, 0, none⟩ = some (.int .i64 1) := l0
      replace l1 : wr.cell? ⟨w.heap.size, 1, none⟩ = some (.int .i64 0) := l1
      replace l2 : wr.cell? ⟨w.heap.size, 2, none⟩ = some (.int .i64 1) := l2
      replace l3 : wr.cell? ⟨w.heap.size, 3, none⟩ = some (.int .i64 1) := l3
      replace l4 : wr.cell? ⟨w.heap.size, 4, none⟩ = some (.int .i64 1) := l4
      replace l5 : wr.cell? ⟨w.heap.size, 5, none⟩ = some (.int .i64 0) := l5
      have c5 : ∀ wq, Lo w wq K0 M G 1 pins (6 + (9 : Nat)) → Calls Try.prog 21 #[.pointer (some ⟨M, 0, none⟩), .int .i64 4] wq fun r w' => r = .returned (.int .u64 1) ∧ MemE w' M G K0 1 pins (6 + (9 : Nat) + 1) ∧ Chg [M, G] wq w' := fun wq h => by
        have := loadE (k := 0) h.mem (by omega) (by decide)
        rw [hv] at this
        exact this
      go_wp2_with (first
        | (go_at_call 22; with_reducible refine (c4 _).mono ?_; rintro e w4 ⟨rfl, hb⟩; replace lo := lo.below hb)
        | (go_at_call 21; with_reducible refine (c5 _ lo).mono ?_; rintro e w5 ⟨rfl, hm, ch⟩; replace lo := lo.chg2 ch hm))
      go_ret
      exact ⟨rfl, lo.bel⟩
end Go.Proofs.Ytpfcpkkillklkaa
