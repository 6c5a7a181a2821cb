/- Contracts of what a Mark and Found call: places, named, fields, Unpack, Blackened, Marked. -/
import Derived.Test.YtcioomopgdhlmaaGreatDoorCKc
import Derived.Test.YtcioomopgdhlmaaGreatDoorBLd0
namespace Go.Proofs.YtcioomopgdhlmaaGreatDoor
open Go.RowKit
open Mm (IsMem MS touched Only IsWords)
open Hh (WT okW wordOf)

theorem view_at {K : Cf} (hK : K.Ok) {k : Nat} (hk : k < K.C) (w : World) : Calls Tryz.prog 82 #[.agg K.cs, .int .i64 (k : Nat)] w fun e w' => e = .returned (.int .i64 (K.vw k : Nat)) ∧ Below w.heap.size w w' := by
  have h := view_yes (s := K.S) (a := K.a) (c := K.C) (d := K.D) (g := K.g) (k := K.k) k hK.r (be_iff.2 (by omega)) w
  have e : (4 : Int) + K.C + K.C * K.D + 2 * k = ((K.vw k : Nat) : Int) := by unfold Cf.vw; push_cast; omega
  rw [e] at h; exact h
theorem start_at {K : Cf} (hK : K.Ok) {k : Nat} (hk : k < K.C) (w : World) : Calls Tryz.prog 58 #[.agg K.cs, .int .i64 (k : Nat)] w fun e w' => e = .returned (.int .i64 (K.st k : Nat)) ∧ Below w.heap.size w w' := by
  have h := start_yes (s := K.S) (a := K.a) (c := K.C) (d := K.D) (g := K.g) (k := K.k) k hK.r (be_iff.2 (by omega)) w
  have e : (4 : Int) + K.C + K.C * K.D + 2 * k + 1 = ((K.st k : Nat) : Int) := by unfold Cf.st; push_cast; omega
  rw [e] at h; exact h
theorem entry_at {K : Cf} (hK : K.Ok) {k i : Nat} (hk : k < K.C) (hi : i < K.D) (w : World) : Calls Tryz.prog 56 #[.agg K.cs, .int .i64 (k : Nat), .int .i64 (i : Nat)] w fun e w' => e = .returned (.int .i64 (K.en k i : Nat)) ∧ Below w.heap.size w w' := by
  have h := entry_yes (s := K.S) (a := K.a) (c := K.C) (d := K.D) (g := K.g) (k := K.k) k i hK.r (be_iff.2 (by omega)) (be_iff.2 (by omega)) w
  have e : (4 : Int) + K.C + k * K.D + i = ((K.en k i : Nat) : Int) := by unfold Cf.en; push_cast; omega
  rw [e] at h; exact h
theorem body_at {K : Cf} (hK : K.Ok) {s i : Nat} (hs : s < K.S) (hi : i < K.B) (w : World) : Calls Tryz.prog 60 #[.agg K.cs, .int .i64 (s : Nat), .int .i64 (i : Nat)] w fun e w' => e = .returned (.int .i64 (K.bd s i : Nat)) ∧ Below w.heap.size w w' := by
  have h := body_yes (s := K.S) (a := K.a) (c := K.C) (d := K.D) (g := K.g) (k := K.k) s i hK.r (be_iff.2 (by omega)) (be_iff.2 (by rw [hK.b]; omega)) w
  have e : fsI K.C K.D + (s : Int) * ssI K.a + 2 + i = ((K.bd s i : Nat) : Int) := by
    unfold fsI ssI Cf.bd Cf.hd
    rw [hK.b]
    push_cast
    omega
  rw [e] at h; exact h
theorem body_out {K : Cf} (hK : K.Ok) {s i : Nat} (hs : s < K.S) (hi : K.B ≤ i) (w : World) : Calls Tryz.prog 60 #[.agg K.cs, .int .i64 (s : Nat), .int .i64 (i : Nat)] w fun e w' => e = .returned (.int .i64 (-1)) ∧ Below w.heap.size w w' :=
  body_no2 (s := K.S) (a := K.a) (c := K.C) (d := K.D) (g := K.g) (k := K.k) s i (by rw [hK.r, be_iff.2 (by omega)]; rfl) (by cases h : be (i : Int) (bsI K.a); rfl; exact absurd (be_iff.1 h) (by rw [hK.b]; omega)) w

/-- The slot that a word names; -1: none. -/
def Cf.nm (K : Cf) (W : Nat) : Int := if K.S < W then -1 else (W : Int) - 1
theorem Cf.nm_b (K : Cf) (W : Nat) : -1 ≤ K.nm W ∧ K.nm W < K.S := by unfold Cf.nm; split <;> omega
set_option maxHeartbeats 1000000 in
theorem mnamed_any {K : Cf} (hK : K.Ok) {W : Nat} (hW : W < 18446744073709551616) (w : World) :
    Calls Tryz.prog 57 #[.agg K.cs, .int .u64 (W : Nat)] w fun e w' => e = .returned (.int .i64 (K.nm W)) ∧ Below w.heap.size w w' := by
  have bel := alloc_below w (.cells #[.int .i64 (K.S : Nat), .int .i64 K.a, .int .i64 (K.C : Nat), .int .i64 (K.D : Nat), .int .i64 K.g, .int .i64 K.k] 23)
  have h64 := hK.s64
  unfold Cf.cs at *
  have e0 : IntKind.u64.wrap (K.S : Int) = (K.S : Int) := by rw [IntKind.wrap_u64]; omega
  by_cases hc : K.S < W
  · have e : K.nm W = -1 := by unfold Cf.nm; rw [if_pos hc]
    rw [e]
    have hc1 : (K.S : Int) < (W : Int) := by omega
    have hc2 : decide ((K.S : Int) < (W : Int)) = true := decide_eq_true hc1
    clear hc e hW h64
    go_enter Tryz.func57, Tryz.ntmps57
    go_wp2
    go_ret
    exact ⟨rfl, bel⟩
  · have e : K.nm W = (W : Int) - 1 := by unfold Cf.nm; rw [if_neg hc]
    rw [e]
    have hc1 : ¬ (K.S : Int) < (W : Int) := by omega
    have hc2 : decide ((K.S : Int) < (W : Int)) = false := decide_eq_false hc1
    have e1 : IntKind.i64.wrap (W : Int) = (W : Int) := by rw [IntKind.wrap_i64]; omega
    have e2 : wrap64 ((W : Int) - 1) = (W : Int) - 1 := by unfold wrap64; omega
    clear hc e hW h64
    go_enter Tryz.func57, Tryz.ntmps57
    go_wp2
    go_ret
    exact ⟨rfl, bel⟩

/-- What a word's header says. -/
def knW (W : Nat) : Nat := if okW W = true then W % 8 else 0
def arW (W : Nat) : Nat := if okW W = true then W / 32 % 16 else 0
theorem arW_lt (W : Nat) : arW W < 16 := by unfold arW; split <;> omega
theorem unp_any {W : Nat} (hW : W < 18446744073709551616) (w : World) (hw : WT w) :
    Calls Tryz.prog 50 #[.int .u64 (W : Nat)] w fun r w' => (∃ (m : Int) (n s : Int), r = .returned (.tuple #[.agg #[.int .i64 (knW W : Nat), .int .i64 m, .bool (grayW W), .int .i64 (arW W : Nat), .int .i64 n, .int .i64 s], .bool (okW W)])) ∧ Below w.heap.size w w' := by
  unfold knW arW
  cases hok : okW W
  · have e : grayW W = false := by unfold grayW; rw [hok]; rfl
    rw [e]
    exact (Hh.unpack_bad hW hok w hw).mono fun r w' ⟨hr, hb⟩ => ⟨⟨_, _, _, hr⟩, hb⟩
  · obtain ⟨K, M, g, A, N, S, h1, rfl⟩ := Hh.okW_parts hW hok
    obtain ⟨p0, p1, p2, p3, _⟩ := Hh.word_parts g h1
    have e := gray_word g h1
    rw [hok] at e
    rw [if_pos rfl, if_pos rfl, p0, p3, ← e]
    exact (Hh.unpack_word g h1 w hw).mono fun r w' ⟨hr, hb⟩ => ⟨⟨(M : Nat), (N : Nat), (S : Nat), by rw [hr, Bool.true_and]⟩, hb⟩
def bkW (W : Nat) : Nat := if grayW W = true then W - 16 else W
theorem bkW_lt {W : Nat} (hW : W < 18446744073709551616) : bkW W < 18446744073709551616 := by unfold bkW; split <;> omega
theorem blackened_any {W : Nat} (hW : W < 18446744073709551616) (w : World) (hw : WT w) :
    Calls Tryz.prog 21 #[.int .u64 (W : Nat)] w fun r w' => r = .returned (.tuple #[.int .u64 (bkW W : Nat), .bool (grayW W)]) ∧ Below w.heap.size w w' := by
  unfold bkW
  cases hok : okW W
  · have e : grayW W = false := by unfold grayW; rw [hok]; rfl
    rw [e]
    exact Hh.blackened_bad hW hok w hw
  · obtain ⟨K, M, g, A, N, S, h1, rfl⟩ := Hh.okW_parts hW hok
    have e := gray_word g h1
    rw [hok, Bool.true_and] at e
    rw [← e]
    cases g
    · exact Hh.blackened_not h1 w hw
    · have q := Hh.blackened_gray h1 w hw
      have e2 : wordOf K M (false : Bool).toNat A N S = wordOf K M (true : Bool).toNat A N S - 16 := by unfold wordOf; simp; omega
      rw [e2] at q
      exact q
theorem mmarked_any {W e : Nat} (hW : W < 18446744073709551616) (he : e < 18446744073709551616) (w : World) (hw : WT w) : Calls Tryz.prog 20 #[.int .u64 (W : Nat), .int .u64 (e : Nat)] w fun r w' => r = .returned (.bool (mkdW W e)) ∧ Below w.heap.size w w' := by
  cases hok : okW W
  · have e : mkdW W e = false := by unfold mkdW livW; rw [hok]; rfl
    rw [e]
    exact Hh.marked_bad hW hok _ w hw
  · obtain ⟨K, M, g, A, N, S, h1, rfl⟩ := Hh.okW_parts hW hok
    obtain ⟨p0, p1, _⟩ := Hh.word_parts g h1
    have q := Hh.marked_word g h1 e he w hw
    have e2 : mkdW (wordOf K M g.toNat A N S) e = (Hh.usedK K && !(Hh.whiteH K M e)) := by
      unfold mkdW livW Hh.whiteH
      rw [hok, p0, p1, Hh.black_nat]
      cases Hh.usedK (K : Int) <;> simp
    rw [e2]
    exact q

/-- A config in a block of its own. -/
structure Cb (w wr : World) (K : Cf) : Prop where
  cfg : IsCfg wr w.heap.size K.S K.a K.C K.D K.g K.k
  bel : Below w.heap.size w wr
theorem Cb.below {w wr w' : World} {K : Cf} (h : Cb w wr K) (b : Below wr.heap.size wr w') : Cb w w' K := ⟨h.cfg.below b, seq_below h.bel b⟩
/-- How many fields a node has. -/
def Cf.fl (K : Cf) (n : Nat) : Nat := min n K.B
set_option maxHeartbeats 2000000 in
theorem fields_any {K : Cf} (hK : K.Ok) {n : Nat} (hn : n < 16) (w : World) :
    Calls Tryz.prog 61 #[.agg K.cs, .int .i64 (n : Nat)] w fun e w' => e = .returned (.int .i64 (K.fl n : Nat)) ∧ Below w.heap.size w w' := by
  have b1 := alloc_below w (.cells #[.int .i64 (K.S : Nat), .int .i64 K.a, .int .i64 (K.C : Nat), .int .i64 (K.D : Nat), .int .i64 K.g, .int .i64 K.k] 23)
  have hh := cfg_new w K.S K.a K.C K.D K.g K.k
  have h1 := hK.s1
  have h8 := hK.b8
  have cy := fun (i : Nat) (hi : i < K.B) => body_at hK (s := 0) (i := i) (by omega) hi
  have cn := body_out hK (s := 0) (i := K.B) (by omega) (Nat.le_refl _)
  rw [show ((0 : Nat) : Int) = 0 from rfl] at cn
  simp only [show ((0 : Nat) : Int) = 0 from rfl] at cy
  have is : Cb w _ K := ⟨hh, b1⟩
  unfold Cf.cs at *
  have hfl : K.fl n ≤ n ∧ K.fl n ≤ K.B ∧ (K.fl n < n → K.fl n = K.B) := by unfold Cf.fl; omega
  generalize K.fl n = F at *
  clear hK hh b1
  obtain ⟨l0, l1, l2, l3, l4, l5⟩ := is.cfg.cells
  go_enter Tryz.func61, Tryz.ntmps61
  go_wp2
  go_loopw [5] (fun v wr => ∃ i : Nat, i ≤ F ∧ v = .int .i64 i ∧ Cb w wr K) (fun v _ => F - (intOf v).toNat)
  case atStart => exact ⟨0, Nat.zero_le _, rfl, is⟩
  case round =>
    clear is l0 l1 l2 l3 l4 l5
    obtain ⟨i, hi, rfl, is⟩ := hrel
    obtain ⟨l0, l1, l2, l3, l4, l5⟩ := is.cfg.cells
    by_cases hc : i < F
    · have h1 : (i : Int) < (n : Int) := by omega
      have cb := cy i (by omega)
      have hp : (0 : Int) ≤ ((K.bd 0 i : Nat) : Int) := by omega
      generalize ((K.bd 0 i : Nat) : Int) = L at *
      go_wp2_with (first
        | (go_at_call 60; with_reducible refine (cb _).mono ?_; rintro e w1 ⟨rfl, hb⟩; replace is := is.below hb))
      go_roundw
      case rel => exact ⟨i + 1, by omega, by go_num, is⟩
      case measure => simp [intOf]; omega
    · obtain rfl : i = F := by omega
      by_cases h2 : i < n
      · have h1 : (i : Int) < (n : Int) := by omega
        have hB := hfl.2.2 h2
        rw [← hB] at cn
        clear hB hfl hc hi h2
        go_wp2_with (first
          | (go_at_call 60; with_reducible refine (cn _).mono ?_; rintro e w1 ⟨rfl, hb⟩; replace is := is.below hb))
        go_ret
        exact ⟨rfl, is.bel⟩
      · have h1 : ¬ (i : Int) < (n : Int) := by omega
        go_wp2
        go_ret
        exact ⟨rfl, is.bel⟩
end Go.Proofs.YtcioomopgdhlmaaGreatDoor
