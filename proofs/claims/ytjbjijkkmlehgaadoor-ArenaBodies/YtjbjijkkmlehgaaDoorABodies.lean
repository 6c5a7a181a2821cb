/- The law of a slot's body among any words: contracts. -/
import Derived.Test.YtjbjijkkmlehgaaDoorAAwake
namespace Go.Proofs.YtjbjijkkmlehgaaDoor
open Go.RowKit
open Mm (IsMem MS touched Only IsWords zeroMS)
open Hh (WT)

set_option maxHeartbeats 1000000 in
theorem abody_no {s a c d g k : Int} (i : Int) (hr : (rightB s a c d g k && be i s) = false) (v : Value) (w : World) :
    Calls Tryd.prog 30 #[.agg (cs s a c d g k), v, .int .i64 i] w fun e w' => e = .returned (.slice none 0 0) ∧ Below w.heap.size w w' := by
  have c1 := fun w => body_no i 0 hr w
  clear hr
  have bel := alloc_below w (.cells #[.int .i64 s, .int .i64 a, .int .i64 c, .int .i64 d, .int .i64 g, .int .i64 k] 23)
  have hh := cfg_new w s a c d g k
  go_enter Tryd.func30, Tryd.ntmps30
  go_upto_region 1 with fail
  generalize w.alloc (.cells #[.int .i64 s, .int .i64 a, .int .i64 c, .int .i64 d, .int .i64 g, .int .i64 k] 23) = w0 at *
  obtain ⟨l0, l1, l2, l3, l4, l5⟩ := hh.cells
  go_wp2_with (go_at_call 59; refine (c1 _).mono ?_; rintro e w1 ⟨rfl, b⟩; replace bel := seq_below bel b)
  go_ret
  exact ⟨rfl, bel⟩

set_option maxHeartbeats 1000000 in
theorem abody_len {K : Cf} (hK : K.Ok) {s : Nat} (hs : s < K.S) (ad : Option Addr) (n cap : Nat) (hn : n ≠ K.N) (w : World) :
    Calls Tryd.prog 30 #[.agg K.cs, .slice ad n cap, .int .i64 (s : Nat)] w fun e w' => e = .returned (.slice none 0 0) ∧ Below w.heap.size w w' := by
  have c1 := fun w => body_at hK hs (i := 0) (by have := hK.b3; omega) rfl (u := 0) rfl w
  have c2 := size_yes hK.r
  rw [szI_nat K.C K.D K.S K.B K.a hK.b, show nW K.C K.D K.B K.S = K.N from rfl] at c2
  have hz : ¬ ((K.bd s 0 : Nat) : Int) < 0 := by omega
  have hne : ((n : Int) != (K.N : Int)) = true := by simp; omega
  generalize ((K.bd s 0 : Nat) : Int) = z at *
  unfold Cf.cs at *
  have bel := alloc_below w (.cells #[.int .i64 (K.S : Nat), .int .i64 K.a, .int .i64 (K.C : Nat), .int .i64 (K.D : Nat), .int .i64 K.g, .int .i64 K.k] 23)
  have hh := cfg_new w K.S K.a K.C K.D K.g K.k
  go_enter Tryd.func30, Tryd.ntmps30
  go_upto_region 1 with fail
  generalize w.alloc (.cells #[.int .i64 (K.S : Nat), .int .i64 K.a, .int .i64 (K.C : Nat), .int .i64 (K.D : Nat), .int .i64 K.g, .int .i64 K.k] 23) = w0 at *
  obtain ⟨l0, l1, l2, l3, l4, l5⟩ := hh.cells
  go_wp2_with (first
    | (go_at_call 59; refine (c1 _).mono ?_; rintro e w1 ⟨rfl, b⟩; replace bel := seq_below bel b; replace hh := hh.below b; clear l0 l1 l2 l3 l4 l5; obtain ⟨l0, l1, l2, l3, l4, l5⟩ := hh.cells)
    | (go_at_call 35; refine (c2 _).mono ?_; rintro e w2 ⟨rfl, b⟩; replace bel := seq_below bel b))
  go_ret
  exact ⟨rfl, bel⟩

theorem SrW.drop {w : World} {b off : Nat} {X : List Nat} (h : SrW w (some ⟨b, off, none⟩) X) (lo : Nat) : SrW w (some ⟨b, off + lo, none⟩) (X.drop lo) := fun i hi => by
  simp only [List.length_drop] at hi
  obtain ⟨b', off', e, hb, hc⟩ := h (lo + i) (by omega)
  simp only [Option.some.injEq, Addr.mk.injEq] at e
  obtain ⟨rfl, rfl, -⟩ := e
  refine ⟨b, off + lo, rfl, hb, ?_⟩
  rw [Nat.add_assoc, hc]
  simp [List.getD_eq_getElem?_getD, List.getElem?_drop]

set_option maxHeartbeats 2000000 in
theorem abody_yes {K : Cf} (hK : K.Ok) {s : Nat} (hs : s < K.S) {b off cap : Nat} {X : List Nat} {w : World} (hX : X.length = K.N) (hR : SrW w (some ⟨b, off, none⟩) X) (hc : K.N ≤ cap) :
    Calls Tryd.prog 30 #[.agg K.cs, .slice (some ⟨b, off, none⟩) K.N cap, .int .i64 (s : Nat)] w fun e w' => ∃ R, e = .returned (.slice (some ⟨R, 0, none⟩) K.B K.B) ∧ IsWords w' R (fillW K.B (X.drop (K.bd s 0))) ∧ w.heap.size ≤ R ∧ Below w.heap.size w w' := by
  have c1 := fun w => body_at hK hs (i := 0) (by have := hK.b3; omega) rfl (u := 0) rfl w
  have c2 := size_yes hK.r
  rw [szI_nat K.C K.D K.S K.B K.a hK.b, show nW K.C K.D K.B K.S = K.N from rfl] at c2
  have hlt := K.bd_lt hs (i := 0) (by have := hK.b3; omega)
  have c3 : ∀ wr, Below w.heap.size w wr → Calls Tryd.prog 46 #[.agg K.cs, .slice (some ⟨b, off + K.bd s 0, none⟩) (K.N - K.bd s 0) (cap - K.bd s 0)] wr fun e w' => ∃ R, e = .returned (.slice (some ⟨R, 0, none⟩) K.B K.B) ∧ IsWords w' R (fillW K.B (X.drop (K.bd s 0))) ∧ wr.heap.size ≤ R ∧ Below wr.heap.size wr w' := fun wr bb => filled_any hK ((hR.below bb).drop (K.bd s 0)) (by simp [hX])
  generalize K.bd s 0 = p at *
  have hz : ¬ (p : Int) < 0 := by omega
  have hne : ((K.N : Int) != (K.N : Int)) = false := by simp
  have h1 : (p : Int) ≤ (K.N : Int) := by omega
  have h2 : (0 : Int) ≤ (p : Int) := by omega
  have h3 : ¬ cap = p := by omega
  have h4 : p ≤ K.N := by omega
  have h5 : K.N ≤ cap := hc
  have h796 := hK.N_b
  generalize K.N = M at *
  unfold Cf.cs at *
  have bel := alloc_below w (.cells #[.int .i64 (K.S : Nat), .int .i64 K.a, .int .i64 (K.C : Nat), .int .i64 (K.D : Nat), .int .i64 K.g, .int .i64 K.k] 23)
  have hh := cfg_new w K.S K.a K.C K.D K.g K.k
  clear hX hR
  go_enter Tryd.func30, Tryd.ntmps30
  go_upto_region 1 with fail
  generalize w.alloc (.cells #[.int .i64 (K.S : Nat), .int .i64 K.a, .int .i64 (K.C : Nat), .int .i64 (K.D : Nat), .int .i64 K.g, .int .i64 K.k] 23) = w0 at *
  obtain ⟨l0, l1, l2, l3, l4, l5⟩ := hh.cells
  go_upto_region 4 with (first
    | (go_at_call 59; refine (c1 _).mono ?_; rintro e w1 ⟨rfl, b⟩; replace bel := seq_below bel b; replace hh := hh.below b; clear l0 l1 l2 l3 l4 l5; obtain ⟨l0, l1, l2, l3, l4, l5⟩ := hh.cells)
    | (go_at_call 35; refine (c2 _).mono ?_; rintro e w2 ⟨rfl, b⟩; replace bel := seq_below bel b; replace hh := hh.below b; clear l0 l1 l2 l3 l4 l5))
  replace hh := hh.below (Below.refl _ _).drew
  replace bel := bel.drew
  go_region_held (fun wr => wr.cell? ⟨w.heap.size, 0, none⟩ = some (.int .i64 (K.S : Nat)) ∧ wr.cell? ⟨w.heap.size, 1, none⟩ = some (.int .i64 K.a) ∧ wr.cell? ⟨w.heap.size, 2, none⟩ = some (.int .i64 (K.C : Nat)) ∧ wr.cell? ⟨w.heap.size, 3, none⟩ = some (.int .i64 (K.D : Nat)) ∧ wr.cell? ⟨w.heap.size, 4, none⟩ = some (.int .i64 K.g) ∧ wr.cell? ⟨w.heap.size, 5, none⟩ = some (.int .i64 K.k)) (with_reducible exact hh.cells) (first
    | (go_at_call 46; with_reducible refine (c3 _ bel).mono ?_; rintro e w3 ⟨R, rfl, hR, hRl, b⟩; have hs2 := bel.size; replace bel := seq_below bel b; replace hh := hh.below b))
  go_wp2
  go_ret
  exact ⟨R, rfl, hR, by omega, bel⟩

/-- Two slices of the same words. -/
theorem wsame_yes {a1 a2 : Option Addr} {n p1 p2 : Nat} {X : List Nat} {w : World} (hn : X.length = n) (h1 : SrW w a1 X) (h2 : SrW w a2 X) (hl : n ≤ 65536) :
    Calls Tryd.prog 32 #[.slice a1 n p1, .slice a2 n p2] w fun e w' => e = .returned (.bool true) ∧ Below w.heap.size w w' := by
  have H1 : ∀ k, k < n → ∃ g off, a1 = some ⟨g, off, none⟩ ∧ w.cell? ⟨g, off + k, none⟩ = some (.int .u64 (X.getD k 0 : Nat)) := fun k hk => by
    obtain ⟨g, off, e, _, hc⟩ := h1 k (by omega)
    exact ⟨g, off, e, hc⟩
  have H2 : ∀ k, k < n → ∃ g off, a2 = some ⟨g, off, none⟩ ∧ w.cell? ⟨g, off + k, none⟩ = some (.int .u64 (X.getD k 0 : Nat)) := fun k hk => by
    obtain ⟨g, off, e, _, hc⟩ := h2 k (by omega)
    exact ⟨g, off, e, hc⟩
  clear h1 h2 hn
  go_enter Tryd.func32, Tryd.ntmps32
  go_wp2
  go_loopw [5] (fun i wr => ∃ k : Nat, k ≤ n ∧ i = .int .i64 k ∧ Hid (∃ m, wr = w.drewN m)) (fun i _ => n - (intOf i).toNat)
  case atStart => exact ⟨0, Nat.zero_le _, rfl, 0, rfl⟩
  case round =>
    obtain ⟨k, hk, rfl, hW⟩ := hrel
    by_cases hkl : k < n
    · obtain ⟨g1, o1, rfl, q1⟩ := H1 k hkl
      obtain ⟨g2, o2, rfl, q2⟩ := H2 k hkl
      have hc1 : wr.cell? ⟨g1, o1 + k, none⟩ = some (.int .u64 (X.getD k 0 : Nat)) := by obtain ⟨m, rfl⟩ := hW.out; exact q1
      have hc2 : wr.cell? ⟨g2, o2 + k, none⟩ = some (.int .u64 (X.getD k 0 : Nat)) := by obtain ⟨m, rfl⟩ := hW.out; exact q2
      clear H1 H2 q1 q2
      generalize X.getD k 0 = v at *
      go_wp2_with fail
      go_quiet (fail)
      go_wp2
      go_roundw
      case rel => exact ⟨k + 1, by omega, by go_num, Mm.drew_on hW _⟩
      case measure => simp [intOf]; omega
    · have hkn : k = n := by omega
      subst hkn
      clear H1 H2
      go_wp2
      go_ret
      obtain ⟨m, rfl⟩ := hW.out
      exact ⟨rfl, below_drewN (Below.refl _ _) _⟩

theorem rat_body {K : Cf} (hK : K.Ok) {s : Nat} (hs : s < K.S) (w : World) :
    Calls Tryd.prog 23 #[.agg K.cs, .agg #[.string ⟨#[98, 111, 100, 121]⟩, .int .i64 (s : Nat), .int .i64 0]] w fun e w' => e = .returned (.int .i64 (K.bd s 0 : Nat)) ∧ Below w.heap.size w w' :=
  at_yes hK.r hK.b hK.b8 10 s 0 (K.bd s 0) (by omega) (K.bd_lt hs (by have := hK.b3; omega)) (by
    have := wat_body K.C K.D K.B s 0 (by have := hK.b3; omega)
    have e : K.bd s 0 = 4 + K.C + K.C * K.D + 2 * K.C + s * (2 + K.B) + (0 + 2) := by unfold Cf.bd Cf.hd; omega
    rw [e]; exact this) w
theorem rat_body_no {K : Cf} (hK : K.Ok) {i : Int} (hi : ¬ (0 ≤ i ∧ i < (K.S : Int))) (w : World) :
    Calls Tryd.prog 23 #[.agg K.cs, .agg #[.string ⟨#[98, 111, 100, 121]⟩, .int .i64 i, .int .i64 0]] w fun e w' => e = .returned (.int .i64 (-1)) ∧ Below w.heap.size w w' :=
  at_no hK.r hK.b hK.b8 10 i 0 (by omega) (fun p hp h1 h2 _ => by
    have := wat_b (S := K.S) hK.d1 hp
    rw [h1] at this
    omega) w
end Go.Proofs.YtjbjijkkmlehgaaDoor
