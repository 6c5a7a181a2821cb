/- NewMark; the law's 'ends', of a Mark alone. -/
import Derived.Test.YtcioomopgdhlmaaGreatDoorCKj
namespace Go.Proofs.YtcioomopgdhlmaaGreatDoor
open Go.RowKit
open Mm (IsMem MS touched Only IsWords)
open Hh (WT)

set_option maxHeartbeats 1000000 in
theorem newMark_no {s a c d g k : Int} (hr : rightB s a c d g k = false) (e : Nat) (w : World) :
    Calls Tryz.prog 13 #[.agg (cs s a c d g k), .int .u64 (e : Nat)] w fun r w' => r = .returned (.pointer none) ∧ Below w.heap.size w w' := by
  have c1 := right_any s a c d g k
  rw [hr] at c1
  have bel := alloc_below w (.cells #[.int .i64 s, .int .i64 a, .int .i64 c, .int .i64 d, .int .i64 g, .int .i64 k] 23)
  have hh := cfg_new w s a c d g k
  clear hr
  unfold cs at *
  go_enter Tryz.func13, Tryz.ntmps13
  go_upto_region 1 with fail
  generalize w.alloc (.cells #[.int .i64 s, .int .i64 a, .int .i64 c, .int .i64 d, .int .i64 g, .int .i64 k] 23) = w0 at *
  obtain ⟨l0, l1, l2, l3, l4, l5⟩ := hh.cells
  go_wp2_with (go_at_call 17; with_reducible refine (c1 _).mono ?_; rintro r w1 ⟨rfl, b⟩; replace bel := seq_below bel b)
  go_ret
  exact ⟨rfl, bel⟩

theorem hide {p : Prop} (h : p) : Hid p := h
set_option maxHeartbeats 4000000 in
theorem ends_km {w : World} {M P : Nat} {I : Nat → World → Prop} {n most : Nat} {T0 : Nat} (h0 : I 0 w) (h1 : 1 ≤ n) (hn : n ≤ most) (hm : most < 4611686018427387904) (hT : T0 + n < 4611686018427387904)
    (ht : ∀ k wr, I k wr → Calls Tryz.prog 43 #[.pointer (some ⟨M, 0, none⟩)] wr fun e w' => e = .returned (.int .i64 ((T0 + k : Nat) : Int)) ∧ wr = w')
    (hs : ∀ k wr, k < n → I k wr → Calls Tryz.prog 44 #[.pointer (some ⟨P, 0, none⟩), .pointer (some ⟨M, 0, none⟩)] wr fun e w' => e = .returned (.bool (decide (k + 1 = n))) ∧ I (k + 1) w') :
    Calls Tryz.prog 14 #[.pointer (some ⟨P, 0, none⟩), .pointer (some ⟨M, 0, none⟩), .int .i64 (most : Nat)] w fun e w' => e = .returned (.bool true) ∧ I n w' := by
  have HT := hide ht
  have HS := hide hs
  have H0 : Hid (I 0 w) := h0
  clear ht hs h0
  go_enter Tryz.func14, Tryz.ntmps14
  go_wp2
  go_loopw [7] (fun i wr => ∃ k : Nat, k < n ∧ i = .int .i64 k ∧ Hid (I k wr)) (fun i _ => n - (intOf i).toNat)
  case atStart => exact ⟨0, by omega, rfl, H0⟩
  case round =>
    obtain ⟨k, hk, rfl, hI⟩ := hrel
    clear H0
    have hk1 : (k : Int) < (most : Int) := by omega
    have q1 := HT.out k wr hI.out
    have q2 := HS.out k wr hk hI.out
    generalize hTk : T0 + k = tk at *
    have e1 : IntKind.i64.wrap ((tk : Int) + 1) = ((tk + 1 : Nat) : Int) := by rw [IntKind.wrap_i64]; omega
    have q3 : ∀ wr, I (k + 1) wr → Calls Tryz.prog 43 #[.pointer (some ⟨M, 0, none⟩)] wr fun e w' => e = .returned (.int .i64 ((tk + 1 : Nat) : Int)) ∧ wr = w' := fun wr x => by have h := HT.out (k + 1) wr x; rw [show T0 + (k + 1) = tk + 1 by omega] at h; exact h
    have Q3 := hide q3
    clear q3
    have e2 : decide (((tk + 1 : Nat) : Int) < ((tk + 1 : Nat) : Int)) = false := by simp
    have e3 : IntKind.i64.wrap ((k : Int) + 1) = ((k + 1 : Nat) : Int) := by rw [IntKind.wrap_i64]; omega
    generalize ht1 : tk + 1 = tl at *
    generalize hk2 : k + 1 = k1 at *
    by_cases hl : k1 = n
    · rw [decide_eq_true hl] at q2
      go_wp2_with (first
        | (go_at_call 43; with_reducible refine q1.mono ?_; rintro e w1 ⟨rfl, rfl⟩)
        | (go_at_call 44; with_reducible refine q2.mono ?_; rintro e w1 ⟨rfl, i2⟩; have I2 := hide i2; clear i2)
        | (go_at_call 43; with_reducible refine (Q3.out _ I2.out).mono ?_; rintro e w1 ⟨rfl, rfl⟩))
      go_ret
      subst hl
      exact ⟨rfl, I2.out⟩
    · rw [decide_eq_false hl] at q2
      go_wp2_with (first
        | (go_at_call 43; with_reducible refine q1.mono ?_; rintro e w1 ⟨rfl, rfl⟩)
        | (go_at_call 44; with_reducible refine q2.mono ?_; rintro e w1 ⟨rfl, i2⟩; have I2 := hide i2; clear i2)
        | (go_at_call 43; with_reducible refine (Q3.out _ I2.out).mono ?_; rintro e w1 ⟨rfl, rfl⟩))
      go_roundw
      case rel => exact ⟨k1, by omega, rfl, I2⟩
      case measure => simp [intOf]; omega

def kmRun (K : Cf) (X : List Nat) (s : Km) : Nat → List Nat × Km
  | 0 => (X, s)
  | n + 1 => kmX K (kmRun K X s n).1 (kmRun K X s n).2
def KmI (w : World) (K : Cf) (M G P : Nat) (X : List Nat) (s : Km) (T0 : Nat) (k : Nat) (wr : World) : Prop :=
  ∃ c, InA w wr M G K.N (kmRun K X s k).1 ((T0 + k : Nat) : Int) P c 82 ∧ KmAt c 0 K (kmRun K X s k).2
theorem km_ends {w : World} {K : Cf} (hK : K.Ok) (hk : K.k ≤ 64) {M G P : Nat} {X : List Nat} {s : Km} {T0 n most : Nat} (h0 : KmI w K M G P X s T0 0 w) (h1 : 1 ≤ n) (hn : n ≤ most) (hm : most < 2305843009213693952) (hT : T0 < 2305843009213693952)
    (hpc : ∀ k, k < n → kmOk K (kmRun K X s k).1 (kmRun K X s k).2 ∧ ((kmRun K X s (k + 1)).2.pc = 16 ↔ k + 1 = n)) :
    Calls Tryz.prog 14 #[.pointer (some ⟨P, 0, none⟩), .pointer (some ⟨M, 0, none⟩), .int .i64 (most : Nat)] w fun e w' => e = .returned (.bool true) ∧ KmI w K M G P X s T0 n w' := by
  refine ends_km (I := KmI w K M G P X s T0) (n := n) (T0 := T0) h0 h1 hn (by omega) (by omega) ?_ ?_
  · rintro k wr ⟨c, is, _⟩
    exact touchesX is.mem
  · rintro k wr hk' ⟨c, is, hs⟩
    obtain ⟨p1, p2⟩ := hpc k hk'
    have q := km_any hK is.restart hs hk p1 (by omega)
    have e : decide ((kmX K (kmRun K X s k).1 (kmRun K X s k).2).2.pc = 16) = decide (k + 1 = n) := decide_eq_decide.2 p2
    rw [e] at q
    refine q.mono fun r w' ⟨hr, c', i', s', _⟩ => ⟨hr, c', ?_, s'⟩
    have j := is.join i'
    have ec : ((T0 + k : Nat) : Int) + 1 = ((T0 + (k + 1) : Nat) : Int) := by omega
    rw [ec] at j
    exact j
end Go.Proofs.YtcioomopgdhlmaaGreatDoor
