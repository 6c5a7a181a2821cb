/- The law of a slot's body among any words, walked. -/
import Derived.Test.YtjbjijkkmlehgaaDoorABodies
import Derived.Test.YtjbjijkkmlehgaaDoorPRmem
namespace Go.Proofs.YtjbjijkkmlehgaaDoor
open Go.RowKit
open Mm (IsMem MS touched Only IsWords zeroMS)
open Hh (WT)

theorem SrW.of_words {w : World} {R : Nat} {X : List Nat} (h : IsWords w R X) : SrW w (some ⟨R, 0, none⟩) X := fun i hi => ⟨R, 0, rfl, lt_of_block (show w.heap[R]? = _ from h), by rw [Nat.zero_add]; exact Mm.words_at h i hi⟩
theorem SrW.fill {w : World} {ad : Option Addr} {Y : List Nat} (h : SrW w ad Y) {B : Nat} (hB : B ≤ Y.length) : SrW w ad (fillW B Y) := fun i hi => by
  rw [fillW_len] at hi
  obtain ⟨b, off, e, hb, hc⟩ := h i (by omega)
  refine ⟨b, off, e, hb, ?_⟩
  rw [hc]
  have e2 : (fillW B Y).getD i 0 = Y.getD i 0 := by
    unfold fillW
    rw [List.getD_eq_getElem?_getD, List.getD_eq_getElem?_getD, List.getElem?_take, if_pos hi, List.getElem?_append_left (by omega)]
  rw [e2]
set_option maxHeartbeats 1000000 in
theorem bodies_long {s a c d g k slot : Int} {ad : Option Addr} {n cap : Nat} {ft : Bool} (w : World) (hw : WT w) (hn : 700 < n) :
    Calls Tryd.prog 6 #[.agg (cs s a c d g k), .slice ad n cap, .int .i64 slot, .bool ft] w fun e w' => e = .returned (.bool true) ∧ Below w.heap.size w w' := by
  have hlt : (700 : Int) < (n : Int) := by omega
  have bel := alloc_below w (.cells #[.int .i64 s, .int .i64 a, .int .i64 c, .int .i64 d, .int .i64 g, .int .i64 k] 23)
  have hh := cfg_new w s a c d g k
  replace hw := hw.below bel
  go_enter Tryd.func6, Tryd.ntmps6
  go_upto_region 1 with fail
  generalize w.alloc (.cells #[.int .i64 s, .int .i64 a, .int .i64 c, .int .i64 d, .int .i64 g, .int .i64 k] 23) = w0 at *
  obtain ⟨l0, l1, l2, l3, l4, l5⟩ := hh.cells
  go_wp2_with (go_at_call 10; refine (awake_any _ hw).mono ?_; rintro e w5 ⟨rfl, hb⟩; replace bel := seq_below bel hb)
  go_ret
  exact ⟨rfl, bel⟩

set_option maxHeartbeats 2000000 in
theorem bodies_wrong {s a c d g k slot : Int} (hr : rightB s a c d g k = false) {ad : Option Addr} {n cap : Nat} {ft : Bool} (w : World) (hw : WT w) (hn : n ≤ 700) :
    Calls Tryd.prog 6 #[.agg (cs s a c d g k), .slice ad n cap, .int .i64 slot, .bool ft] w fun e w' => e = .returned (.bool true) ∧ Below w.heap.size w w' := by
  have hlt : ¬ (700 : Int) < (n : Int) := by omega
  have c28 := rright_any s a c d g k
  rw [hr] at c28
  have c30 := fun w => abody_no slot (by rw [hr]; rfl : (rightB s a c d g k && be slot s) = false) (.slice ad n cap) w
  have c23 := fun w => at_wrong hr _ ⟨#[98, 111, 100, 121]⟩ slot 0 rfl w
  clear hr hn
  cases ft
  all_goals
    have bel := alloc_below w (.cells #[.int .i64 s, .int .i64 a, .int .i64 c, .int .i64 d, .int .i64 g, .int .i64 k] 23)
    have hh := cfg_new w s a c d g k
    replace hw := hw.below bel
    go_enter Tryd.func6, Tryd.ntmps6
    go_upto_region 1 with fail
    generalize w.alloc (.cells #[.int .i64 s, .int .i64 a, .int .i64 c, .int .i64 d, .int .i64 g, .int .i64 k] 23) = w0 at *
    obtain ⟨l0, l1, l2, l3, l4, l5⟩ := hh.cells
    go_wp2_with (first
      | (go_at_call 28; refine (c28 _).mono ?_; rintro e w1 ⟨rfl, hb⟩; replace bel := seq_below bel hb; replace hh := hh.below hb; replace hw := hw.below hb; clear hb l0 l1 l2 l3 l4 l5; obtain ⟨l0, l1, l2, l3, l4, l5⟩ := hh.cells)
      | (go_at_call 30; refine (c30 _).mono ?_; rintro e w2 ⟨rfl, hb⟩; replace bel := seq_below bel hb; replace hh := hh.below hb; replace hw := hw.below hb; clear hb l0 l1 l2 l3 l4 l5; obtain ⟨l0, l1, l2, l3, l4, l5⟩ := hh.cells)
      | (go_at_call 23; refine (c23 _).mono ?_; rintro e w3 ⟨rfl, hb⟩; replace bel := seq_below bel hb; replace hh := hh.below hb; replace hw := hw.below hb; clear hb l0 l1 l2 l3 l4 l5; obtain ⟨l0, l1, l2, l3, l4, l5⟩ := hh.cells)
      | (go_at_call 31; refine (c31 _).mono ?_; rintro e w3 ⟨R31, cap31, rfl, _, _, hb⟩; replace bel := seq_below bel hb; replace hh := hh.below hb; replace hw := hw.below hb; clear hb l0 l1 l2 l3 l4 l5; obtain ⟨l0, l1, l2, l3, l4, l5⟩ := hh.cells)
      | (go_at_call 10; refine (awake_any _ hw).mono ?_; rintro e w5 ⟨rfl, hb⟩; replace bel := seq_below bel hb))
    go_ret
    exact ⟨rfl, bel⟩

set_option maxRecDepth 100000 in
set_option maxHeartbeats 4000000 in
theorem bodies_plain {K : Cf} (hK : K.Ok) {slot : Int} {ad : Option Addr} {n cap : Nat} {X : List Nat} {ft : Bool} (hf : ft = false ∨ ft = true ∧ ¬ (K.S : Int) ≤ 20) (w : World) (hw : WT w) (hn : n ≤ 700) (hX : X.length = n) (hR : SrW w ad X) (hc : n ≤ cap) :
    Calls Tryd.prog 6 #[.agg K.cs, .slice ad n cap, .int .i64 slot, .bool ft] w fun e w' => e = .returned (.bool true) ∧ Below w.heap.size w w' := by
  have hlt : ¬ (700 : Int) < (n : Int) := by omega
  have c28 := rright_any K.S K.a K.C K.D K.g K.k
  rw [hK.r] at c28
  by_cases hs : 0 ≤ slot ∧ slot < (K.S : Int)
  · obtain ⟨s, rfl⟩ : ∃ s : Nat, slot = (s : Int) := ⟨slot.toNat, by omega⟩
    have hs' : s < K.S := by omega
    have c23 := rat_body hK hs'
    have c31 := words_r K.C K.D K.S K.B K.a K.g K.k hK.c8 hK.d16 hK.s64 hK.b hK.b8
    rw [show nW K.C K.D K.B K.S = K.N from rfl] at c31
    have hlt2 := K.bd_lt hs' (i := K.B - 1) (by have := hK.b3; omega)
    have hbd : K.bd s (K.B - 1) = K.bd s 0 + (K.B - 1) := by unfold Cf.bd; omega
    have hb3 := hK.b3
    have hN := hK.N_b
    by_cases hnN : n = K.N
    · have c18 := room_any K.S K.a K.C K.D K.g K.k
      rw [hK.b] at c18
      obtain ⟨b, off, rfl, _, _⟩ := hR 0 (by omega)
      have c30 : ∀ wr, Below w.heap.size w wr → Calls Tryd.prog 30 #[.agg K.cs, .slice (some ⟨b, off, none⟩) n cap, .int .i64 (s : Nat)] wr fun e w' => ∃ R, e = .returned (.slice (some ⟨R, 0, none⟩) K.B K.B) ∧ IsWords w' R (fillW K.B (X.drop (K.bd s 0))) ∧ wr.heap.size ≤ R ∧ Below wr.heap.size wr w' := fun wr h => by
        have q := abody_yes hK hs' (cap := cap) (by omega : X.length = K.N) (hR.below h) (by omega)
        rw [← hnN] at q
        exact q
      have c32 : ∀ wr, Below w.heap.size w wr → ∀ R, IsWords wr R (fillW K.B (X.drop (K.bd s 0))) → Calls Tryd.prog 32 #[.slice (some ⟨R, 0, none⟩) K.B K.B, .slice (some ⟨b, off + K.bd s 0, none⟩) K.B (cap - K.bd s 0)] wr fun e w' => e = .returned (.bool true) ∧ Below wr.heap.size wr w' := fun wr h R hr =>
        wsame_yes (fillW_len _ _) (SrW.of_words hr) (((hR.below h).drop (K.bd s 0)).fill (by simp; omega)) (by omega)
      generalize K.bd s 0 = p at *
      have h0 : ¬ (p : Int) < 0 := by omega
      have h1 : (0 : Int) ≤ (p : Int) := by omega
      have h2 : ((p : Int) + (K.B : Int)) ≤ (cap : Int) := by omega
      have h3 : ¬ cap = p := by omega
      have h4 : (p : Int) ≤ (p : Int) + (K.B : Int) := by omega
      have h5 : IntKind.i64.wrap ((p : Int) + (K.B : Int)) = (p : Int) + (K.B : Int) := by rw [IntKind.wrap_i64]; omega
      have hne : ((n : Int) != (K.N : Int)) = false := by rw [hnN]; simp
      clear hR hX hnN hbd hlt2 hc hb3
      unfold Cf.cs at *
      rcases hf with rfl | ⟨rfl, hq⟩
      all_goals
        have bel := alloc_below w (.cells #[.int .i64 (K.S : Nat), .int .i64 K.a, .int .i64 (K.C : Nat), .int .i64 (K.D : Nat), .int .i64 K.g, .int .i64 K.k] 23)
        have hh := cfg_new w K.S K.a K.C K.D K.g K.k
        replace hw := hw.below bel
        go_enter Tryd.func6, Tryd.ntmps6
        go_upto_region 1 with fail
        generalize w.alloc (.cells #[.int .i64 (K.S : Nat), .int .i64 K.a, .int .i64 (K.C : Nat), .int .i64 (K.D : Nat), .int .i64 K.g, .int .i64 K.k] 23) = w0 at *
        obtain ⟨l0, l1, l2, l3, l4, l5⟩ := hh.cells
        go_wp2_with (first
          | (go_at_call 28; refine (c28 _).mono ?_; rintro e w1 ⟨rfl, hb⟩; replace bel := seq_below bel hb; replace hh := hh.below hb; replace hw := hw.below hb; clear hb l0 l1 l2 l3 l4 l5; obtain ⟨l0, l1, l2, l3, l4, l5⟩ := hh.cells)
          | (go_at_call 30; refine (c30 _ bel).mono ?_; rintro e w2 ⟨R, rfl, hR, hRl, hb⟩; replace bel := seq_below bel hb; replace hh := hh.below hb; replace hw := hw.below hb; clear hb l0 l1 l2 l3 l4 l5; obtain ⟨l0, l1, l2, l3, l4, l5⟩ := hh.cells)
          | (go_at_call 23; refine (c23 _).mono ?_; rintro e w3 ⟨rfl, hb⟩; replace hR := words_below hR hb; replace bel := seq_below bel hb; replace hh := hh.below hb; replace hw := hw.below hb; clear hb l0 l1 l2 l3 l4 l5; obtain ⟨l0, l1, l2, l3, l4, l5⟩ := hh.cells)
          | (go_at_call 31; refine (c31 _).mono ?_; rintro e w4 ⟨R31, cap31, rfl, _, _, hb⟩; replace hR := words_below hR hb; replace bel := seq_below bel hb; replace hh := hh.below hb; replace hw := hw.below hb; clear hb l0 l1 l2 l3 l4 l5; obtain ⟨l0, l1, l2, l3, l4, l5⟩ := hh.cells)
          | (go_at_call 18; refine (c18 _).mono ?_; rintro e w5 ⟨rfl, hb⟩; replace hR := words_below hR hb; replace bel := seq_below bel hb; replace hh := hh.below hb; replace hw := hw.below hb; clear hb l0 l1 l2 l3 l4 l5; obtain ⟨l0, l1, l2, l3, l4, l5⟩ := hh.cells)
          | (go_at_call 32; with_reducible refine (c32 _ bel R hR).mono ?_; rintro e w6 ⟨rfl, hb⟩; replace bel := seq_below bel hb; replace hh := hh.below hb; replace hw := hw.below hb; clear hb l0 l1 l2 l3 l4 l5; obtain ⟨l0, l1, l2, l3, l4, l5⟩ := hh.cells)
          | (go_at_call 10; refine (awake_any _ hw).mono ?_; rintro e w7 ⟨rfl, hb⟩; replace bel := seq_below bel hb))
        go_ret
        exact ⟨rfl, bel⟩
    · have c30 := fun w => abody_len hK hs' ad n cap hnN w
      have h0 : ¬ ((K.bd s 0 : Nat) : Int) < 0 := by omega
      have hne : ((n : Int) != (K.N : Int)) = true := by simp; omega
      generalize K.bd s 0 = p at *
      clear hR hX hnN hbd hlt2 hc
      unfold Cf.cs at *
      rcases hf with rfl | ⟨rfl, hq⟩
      all_goals
        have bel := alloc_below w (.cells #[.int .i64 (K.S : Nat), .int .i64 K.a, .int .i64 (K.C : Nat), .int .i64 (K.D : Nat), .int .i64 K.g, .int .i64 K.k] 23)
        have hh := cfg_new w K.S K.a K.C K.D K.g K.k
        replace hw := hw.below bel
        go_enter Tryd.func6, Tryd.ntmps6
        go_upto_region 1 with fail
        generalize w.alloc (.cells #[.int .i64 (K.S : Nat), .int .i64 K.a, .int .i64 (K.C : Nat), .int .i64 (K.D : Nat), .int .i64 K.g, .int .i64 K.k] 23) = w0 at *
        obtain ⟨l0, l1, l2, l3, l4, l5⟩ := hh.cells
        go_wp2_with (first
          | (go_at_call 28; refine (c28 _).mono ?_; rintro e w1 ⟨rfl, hb⟩; replace bel := seq_below bel hb; replace hh := hh.below hb; replace hw := hw.below hb; clear hb l0 l1 l2 l3 l4 l5; obtain ⟨l0, l1, l2, l3, l4, l5⟩ := hh.cells)
          | (go_at_call 30; refine (c30 _).mono ?_; rintro e w2 ⟨rfl, hb⟩; replace bel := seq_below bel hb; replace hh := hh.below hb; replace hw := hw.below hb; clear hb l0 l1 l2 l3 l4 l5; obtain ⟨l0, l1, l2, l3, l4, l5⟩ := hh.cells)
          | (go_at_call 23; refine (c23 _).mono ?_; rintro e w3 ⟨rfl, hb⟩; replace bel := seq_below bel hb; replace hh := hh.below hb; replace hw := hw.below hb; clear hb l0 l1 l2 l3 l4 l5; obtain ⟨l0, l1, l2, l3, l4, l5⟩ := hh.cells)
          | (go_at_call 31; refine (c31 _).mono ?_; rintro e w3 ⟨R31, cap31, rfl, _, _, hb⟩; replace bel := seq_below bel hb; replace hh := hh.below hb; replace hw := hw.below hb; clear hb l0 l1 l2 l3 l4 l5; obtain ⟨l0, l1, l2, l3, l4, l5⟩ := hh.cells)
          | (go_at_call 10; refine (awake_any _ hw).mono ?_; rintro e w5 ⟨rfl, hb⟩; replace bel := seq_below bel hb))
        go_ret
        exact ⟨rfl, bel⟩
  · have c23 := rat_body_no hK hs
    have hbe : (rightB K.S K.a K.C K.D K.g K.k && be slot K.S) = false := by
      rw [hK.r, Bool.true_and]
      cases hb : be slot (K.S : Int) with
      | false => rfl
      | true => exact absurd (be_iff.1 hb) hs
    have c30 := fun w => abody_no slot hbe (.slice ad n cap) w
    clear hbe
    unfold Cf.cs at *
    rcases hf with rfl | ⟨rfl, hq⟩
    all_goals
      have bel := alloc_below w (.cells #[.int .i64 (K.S : Nat), .int .i64 K.a, .int .i64 (K.C : Nat), .int .i64 (K.D : Nat), .int .i64 K.g, .int .i64 K.k] 23)
      have hh := cfg_new w K.S K.a K.C K.D K.g K.k
      replace hw := hw.below bel
      go_enter Tryd.func6, Tryd.ntmps6
      go_upto_region 1 with fail
      generalize w.alloc (.cells #[.int .i64 (K.S : Nat), .int .i64 K.a, .int .i64 (K.C : Nat), .int .i64 (K.D : Nat), .int .i64 K.g, .int .i64 K.k] 23) = w0 at *
      obtain ⟨l0, l1, l2, l3, l4, l5⟩ := hh.cells
      go_wp2_with (first
        | (go_at_call 28; refine (c28 _).mono ?_; rintro e w1 ⟨rfl, hb⟩; replace bel := seq_below bel hb; replace hh := hh.below hb; replace hw := hw.below hb; clear hb l0 l1 l2 l3 l4 l5; obtain ⟨l0, l1, l2, l3, l4, l5⟩ := hh.cells)
        | (go_at_call 30; refine (c30 _).mono ?_; rintro e w2 ⟨rfl, hb⟩; replace bel := seq_below bel hb; replace hh := hh.below hb; replace hw := hw.below hb; clear hb l0 l1 l2 l3 l4 l5; obtain ⟨l0, l1, l2, l3, l4, l5⟩ := hh.cells)
        | (go_at_call 23; refine (c23 _).mono ?_; rintro e w3 ⟨rfl, hb⟩; replace bel := seq_below bel hb; replace hh := hh.below hb; replace hw := hw.below hb; clear hb l0 l1 l2 l3 l4 l5; obtain ⟨l0, l1, l2, l3, l4, l5⟩ := hh.cells)
        | (go_at_call 31; refine (c31 _).mono ?_; rintro e w3 ⟨R31, cap31, rfl, _, _, hb⟩; replace bel := seq_below bel hb; replace hh := hh.below hb; replace hw := hw.below hb; clear hb l0 l1 l2 l3 l4 l5; obtain ⟨l0, l1, l2, l3, l4, l5⟩ := hh.cells)
        | (go_at_call 10; refine (awake_any _ hw).mono ?_; rintro e w5 ⟨rfl, hb⟩; replace bel := seq_below bel hb))
      go_ret
      exact ⟨rfl, bel⟩

set_option maxRecDepth 100000 in
set_option maxHeartbeats 8000000 in
theorem bodies_fit {K : Cf} (hK : K.Ok) {slot : Int} {ad : Option Addr} {n cap : Nat} {X : List Nat} (h20 : (K.S : Int) ≤ 20) (w : World) (hw : WT w) (hn : n ≤ 700) (hX : X.length = n) (hR : SrW w ad X) :
    Calls Tryd.prog 6 #[.agg K.cs, .slice ad n cap, .int .i64 slot, .bool true] w fun e w' => e = .returned (.bool true) ∧ Below w.heap.size w w' := by
  have hlt : ¬ (700 : Int) < (n : Int) := by omega
  have c28 := rright_any K.S K.a K.C K.D K.g K.k
  rw [hK.r] at c28
  have c18 := room_any K.S K.a K.C K.D K.g K.k
  rw [hK.b] at c18
  have c29 := rmemory_any K.C K.D K.S K.B K.a K.g K.k hK.b hK.b8 hK.c8 hK.d16 hK.s64 hK.d1
  have hYl : (memX K.C K.D K.B (nW K.C K.D K.B K.S) (K.S - 1)).length = K.N := memX_len _ _ _ _ _
  have c31 := words_r K.C K.D K.S K.B K.a K.g K.k hK.c8 hK.d16 hK.s64 hK.b hK.b8
  rw [show nW K.C K.D K.B K.S = K.N from rfl] at c29 hYl c31
  have hb3 := hK.b3
  have h8 := hK.b8
  have hN := hK.N_b
  have hyes : ∀ s : Nat, ((s : Nat) : Int) < (K.S : Int) → ∃ p, p + K.B ≤ K.N ∧ (∀ w, Calls Tryd.prog 23 #[.agg K.cs, .agg #[.string ⟨#[98, 111, 100, 121]⟩, .int .i64 (s : Nat), .int .i64 0]] w fun e w' => e = .returned (.int .i64 (p : Nat)) ∧ Below w.heap.size w w') ∧
      ∀ R Z wr, Z.length = K.N → IsWords wr R Z → ∀ wr', Below wr.heap.size wr wr' → Calls Tryd.prog 30 #[.agg K.cs, .slice (some ⟨R, 0, none⟩) K.N K.N, .int .i64 (s : Nat)] wr' fun e w' => ∃ R2, e = .returned (.slice (some ⟨R2, 0, none⟩) K.B K.B) ∧ IsWords w' R2 (fillW K.B (Z.drop p)) ∧ wr'.heap.size ≤ R2 ∧ Below wr'.heap.size wr' w' := fun s hs => by
    have hs' : s < K.S := by omega
    have hlt2 := K.bd_lt hs' (i := K.B - 1) (by omega)
    have hbd : K.bd s (K.B - 1) = K.bd s 0 + (K.B - 1) := by unfold Cf.bd; omega
    exact ⟨K.bd s 0, by omega, rat_body hK hs', fun R Z wr hZ hw wr' h => abody_yes hK hs' hZ ((SrW.of_words hw).below h) (Nat.le_refl _)⟩
  have hno : ¬ (0 ≤ slot ∧ slot < (K.S : Int)) → ∀ n cap R, (∀ w, Calls Tryd.prog 23 #[.agg K.cs, .agg #[.string ⟨#[98, 111, 100, 121]⟩, .int .i64 slot, .int .i64 0]] w fun e w' => e = .returned (.int .i64 (-1)) ∧ Below w.heap.size w w') ∧ (∀ w, Calls Tryd.prog 30 #[.agg K.cs, .slice (some ⟨R, 0, none⟩) n cap, .int .i64 slot] w fun e w' => e = .returned (.slice none 0 0) ∧ Below w.heap.size w w') := fun hs n cap R => by
    refine ⟨rat_body_no hK hs, fun w => abody_no slot ?_ _ w⟩
    rw [hK.r, Bool.true_and]
    cases hb : be slot (K.S : Int) with
    | false => rfl
    | true => exact absurd (be_iff.1 hb) hs
  generalize memX K.C K.D K.B K.N (K.S - 1) = Y at *
  unfold Cf.cs at *
  generalize K.N = M at *
  generalize K.B = B at *
  generalize (K.S : Int) = S at *
  generalize K.a = a at *
  generalize (K.C : Int) = c at *
  generalize (K.D : Int) = d at *
  generalize K.g = g at *
  generalize K.k = k at *
  clear hK
  have bel := alloc_below w (.cells #[.int .i64 S, .int .i64 a, .int .i64 c, .int .i64 d, .int .i64 g, .int .i64 k] 23)
  have hh := cfg_new w S a c d g k
  replace hw := hw.below bel
  replace hyes : Hid _ := hyes
  replace hno : Hid _ := hno
  have hRW : Hid (SrW w ad X) := hR
  clear hR
  go_enter Tryd.func6, Tryd.ntmps6
  go_upto_region 1 with fail
  generalize w.alloc (.cells #[.int .i64 S, .int .i64 a, .int .i64 c, .int .i64 d, .int .i64 g, .int .i64 k] 23) = w0 at *
  obtain ⟨l0, l1, l2, l3, l4, l5⟩ := hh.cells
  go_wp2_with (first
    | (go_at_call 28; refine (c28 _).mono ?_; rintro e w1 ⟨rfl, hb⟩; replace bel := seq_below bel hb; replace hh := hh.below hb; replace hw := hw.below hb; clear hb l0 l1 l2 l3 l4 l5; obtain ⟨l0, l1, l2, l3, l4, l5⟩ := hh.cells)
    | (go_at_call 29; refine (c29 _).mono ?_; rintro e w2 ⟨R, rfl, hwR, hRl, hb⟩; have hlt0 := hh.lt; replace bel := seq_below bel hb; replace hh := hh.below hb; replace hw := hw.below hb; clear hb l0 l1 l2 l3 l4 l5; obtain ⟨l0, l1, l2, l3, l4, l5⟩ := hh.cells))
  have hR1 : w.heap.size + 1 ≤ R := by omega
  clear hRl hlt0 c29 l0 l1 l2 l3 l4 l5
  go_loopw [10] (fun i wr => ∃ (j : Nat) (Z : List Nat), j ≤ n ∧ j ≤ M ∧ i = .int .i64 j ∧ Z.length = M ∧ IsWords wr R Z ∧ IsCfg wr w.heap.size S a c d g k ∧ Below w.heap.size w wr ∧ WT wr) (fun i _ => n - (intOf i).toNat)
  case atStart => exact ⟨0, Y, Nat.zero_le _, Nat.zero_le _, rfl, hYl, hwR, hh, bel, hw⟩
  case round =>
    clear hwR hh bel hw
    obtain ⟨j, Z, hj, hjM, rfl, hZ, hw0, hh, bel, hwt⟩ := hrel
    obtain ⟨l0, l1, l2, l3, l4, l5⟩ := hh.cells
    by_cases hjn : j < n
    · by_cases hjm : j < M
      · obtain ⟨b, off, rfl, hbl, q⟩ := hRW.out j (by omega)
        replace q := (bel.cell (p := ⟨b, off + j, none⟩) hbl).trans q
        obtain ⟨M1, hM1⟩ : ∃ M1 : Nat, M = M1 + 1 := ⟨M - 1, by omega⟩
        obtain ⟨t, ht⟩ : ∃ t : Nat, M1 = t + j := ⟨M1 - j, by omega⟩
        have e1 : IntKind.i64.wrap ((M : Int) - 1) = (M1 : Int) := by rw [IntKind.wrap_i64]; omega
        have e2 : IntKind.i64.wrap ((M1 : Int) - (j : Int)) = (t : Int) := by rw [IntKind.wrap_i64]; omega
        have htM : (t : Int) < (M : Int) := by omega
        have ht0 : (0 : Int) ≤ (t : Int) := by omega
        have fz := words_free hw0 t
        obtain ⟨vj, qj⟩ := words_some hw0 t (by omega)
        have hw2 := words_stored hw0 t (X.getD j 0) _ rfl
        have hc2 := cfg_stored (i := t) hh (by omega : w.heap.size ≠ R) (.int .u64 (X.getD j 0 : Nat))
        have hb2 := bel.setCell (p := ⟨R, t, none⟩) (by omega : w.heap.size ≤ R) (.int .u64 (X.getD j 0 : Nat))
        have hwt2 := hwt.set (o := t) (by omega : 0 < R) (.int .u64 (X.getD j 0 : Nat))
        clear hyes hno hRW hX hw0 hh hwt bel c28 c18 c31 ht hM1
        generalize X.getD j 0 = x at *
        go_wp2
        go_roundw
        case rel => exact ⟨j + 1, _, by omega, by omega, by go_num, by simp [hZ], hw2, hc2, hb2, hwt2⟩
        case measure => simp [intOf]; omega
      · replace hyes := hyes.out
        replace hno := hno.out
        have hZl : Z.length = M := hZ
        have hwz := hw0
        clear hw0
        replace hwt := hwt
        have hw := hwt
        clear hwt
        have bx := Below.refl wr.heap.size wr
        by_cases hs : 0 ≤ slot ∧ slot < S
        · obtain ⟨s, rfl⟩ : ∃ s : Nat, slot = (s : Int) := ⟨slot.toNat, by omega⟩
          obtain ⟨p, hp, c23, cY⟩ := hyes s hs.2
          have c30 := fun wr' h => cY R Z wr hZl hwz wr' h
          have c32 : ∀ wr', Below wr.heap.size wr wr' → ∀ R2, IsWords wr' R2 (fillW B (Z.drop p)) → Calls Tryd.prog 32 #[.slice (some ⟨R2, 0, none⟩) B B, .slice (some ⟨R, p, none⟩) B (M - p)] wr' fun e w' => e = .returned (.bool true) ∧ Below wr'.heap.size wr' w' := fun wr' h R2 hr =>
            wsame_yes (fillW_len _ _) (SrW.of_words hr) (by have q := ((SrW.of_words hwz).below h).drop p; rw [Nat.zero_add] at q; exact q.fill (by simp; omega)) (by omega)
          have h0 : ¬ (p : Int) < 0 := by omega
          have h1 : (0 : Int) ≤ (p : Int) := by omega
          have h2 : ((p : Int) + (B : Int)) ≤ (M : Int) := by omega
          have h3 : ¬ M = p := by omega
          have h4 : (p : Int) ≤ (p : Int) + (B : Int) := by omega
          have h5 : IntKind.i64.wrap ((p : Int) + (B : Int)) = (p : Int) + (B : Int) := by rw [IntKind.wrap_i64]; omega
          have hne : ((M : Int) != (M : Int)) = false := by simp
          clear hyes hno cY hwz hZl hZ hp
          go_wp2_with (first
            | (go_at_call 28; refine (c28 _).mono ?_; rintro e w1 ⟨rfl, hb⟩; replace bel := seq_below bel hb; replace bx := seq_below bx hb; replace hh := hh.below hb; replace hw := hw.below hb; clear hb l0 l1 l2 l3 l4 l5; obtain ⟨l0, l1, l2, l3, l4, l5⟩ := hh.cells)
            | (go_at_call 30; refine (c30 _ bx).mono ?_; rintro e w2 ⟨R2, rfl, hR, hRl, hb⟩; replace bel := seq_below bel hb; replace bx := seq_below bx hb; replace hh := hh.below hb; replace hw := hw.below hb; clear hb l0 l1 l2 l3 l4 l5; obtain ⟨l0, l1, l2, l3, l4, l5⟩ := hh.cells)
            | (go_at_call 23; refine (c23 _).mono ?_; rintro e w3 ⟨rfl, hb⟩; replace hR := words_below hR hb; replace bel := seq_below bel hb; replace bx := seq_below bx hb; replace hh := hh.below hb; replace hw := hw.below hb; clear hb l0 l1 l2 l3 l4 l5; obtain ⟨l0, l1, l2, l3, l4, l5⟩ := hh.cells)
            | (go_at_call 31; refine (c31 _).mono ?_; rintro e w4 ⟨R31, cap31, rfl, _, _, hb⟩; replace hR := words_below hR hb; replace bel := seq_below bel hb; replace bx := seq_below bx hb; replace hh := hh.below hb; replace hw := hw.below hb; clear hb l0 l1 l2 l3 l4 l5; obtain ⟨l0, l1, l2, l3, l4, l5⟩ := hh.cells)
            | (go_at_call 18; refine (c18 _).mono ?_; rintro e w5 ⟨rfl, hb⟩; replace hR := words_below hR hb; replace bel := seq_below bel hb; replace bx := seq_below bx hb; replace hh := hh.below hb; replace hw := hw.below hb; clear hb l0 l1 l2 l3 l4 l5; obtain ⟨l0, l1, l2, l3, l4, l5⟩ := hh.cells)
            | (go_at_call 32; with_reducible refine (c32 _ bx R2 hR).mono ?_; rintro e w6 ⟨rfl, hb⟩; replace bel := seq_below bel hb; replace bx := seq_below bx hb; replace hh := hh.below hb; replace hw := hw.below hb; clear hb l0 l1 l2 l3 l4 l5; obtain ⟨l0, l1, l2, l3, l4, l5⟩ := hh.cells)
            | (go_at_call 10; refine (awake_any _ hw).mono ?_; rintro e w7 ⟨rfl, hb⟩; replace bel := seq_below bel hb))
          go_ret
          exact ⟨rfl, bel⟩
        · obtain ⟨c23, c30⟩ := hno hs M M R
          clear hyes hno hwz hZl hZ
          go_wp2_with (first
            | (go_at_call 28; refine (c28 _).mono ?_; rintro e w1 ⟨rfl, hb⟩; replace bel := seq_below bel hb; replace hh := hh.below hb; replace hw := hw.below hb; clear hb l0 l1 l2 l3 l4 l5; obtain ⟨l0, l1, l2, l3, l4, l5⟩ := hh.cells)
            | (go_at_call 30; refine (c30 _).mono ?_; rintro e w2 ⟨rfl, hb⟩; replace bel := seq_below bel hb; replace hh := hh.below hb; replace hw := hw.below hb; clear hb l0 l1 l2 l3 l4 l5; obtain ⟨l0, l1, l2, l3, l4, l5⟩ := hh.cells)
            | (go_at_call 23; refine (c23 _).mono ?_; rintro e w3 ⟨rfl, hb⟩; replace bel := seq_below bel hb; replace hh := hh.below hb; replace hw := hw.below hb; clear hb l0 l1 l2 l3 l4 l5; obtain ⟨l0, l1, l2, l3, l4, l5⟩ := hh.cells)
            | (go_at_call 31; refine (c31 _).mono ?_; rintro e w3 ⟨R31, cap31, rfl, _, _, hb⟩; replace bel := seq_below bel hb; replace hh := hh.below hb; replace hw := hw.below hb; clear hb l0 l1 l2 l3 l4 l5; obtain ⟨l0, l1, l2, l3, l4, l5⟩ := hh.cells)
            | (go_at_call 10; refine (awake_any _ hw).mono ?_; rintro e w5 ⟨rfl, hb⟩; replace bel := seq_below bel hb))
          go_ret
          exact ⟨rfl, bel⟩
    · replace hyes := hyes.out
      replace hno := hno.out
      have hZl : Z.length = M := hZ
      have hwz := hw0
      clear hw0
      replace hwt := hwt
      have hw := hwt
      clear hwt
      have bx := Below.refl wr.heap.size wr
      by_cases hs : 0 ≤ slot ∧ slot < S
      · obtain ⟨s, rfl⟩ : ∃ s : Nat, slot = (s : Int) := ⟨slot.toNat, by omega⟩
        obtain ⟨p, hp, c23, cY⟩ := hyes s hs.2
        have c30 := fun wr' h => cY R Z wr hZl hwz wr' h
        have c32 : ∀ wr', Below wr.heap.size wr wr' → ∀ R2, IsWords wr' R2 (fillW B (Z.drop p)) → Calls Tryd.prog 32 #[.slice (some ⟨R2, 0, none⟩) B B, .slice (some ⟨R, p, none⟩) B (M - p)] wr' fun e w' => e = .returned (.bool true) ∧ Below wr'.heap.size wr' w' := fun wr' h R2 hr =>
          wsame_yes (fillW_len _ _) (SrW.of_words hr) (by have q := ((SrW.of_words hwz).below h).drop p; rw [Nat.zero_add] at q; exact q.fill (by simp; omega)) (by omega)
        have h0 : ¬ (p : Int) < 0 := by omega
        have h1 : (0 : Int) ≤ (p : Int) := by omega
        have h2 : ((p : Int) + (B : Int)) ≤ (M : Int) := by omega
        have h3 : ¬ M = p := by omega
        have h4 : (p : Int) ≤ (p : Int) + (B : Int) := by omega
        have h5 : IntKind.i64.wrap ((p : Int) + (B : Int)) = (p : Int) + (B : Int) := by rw [IntKind.wrap_i64]; omega
        have hne : ((M : Int) != (M : Int)) = false := by simp
        clear hyes hno cY hwz hZl hZ hp
        go_wp2_with (first
          | (go_at_call 28; refine (c28 _).mono ?_; rintro e w1 ⟨rfl, hb⟩; replace bel := seq_below bel hb; replace bx := seq_below bx hb; replace hh := hh.below hb; replace hw := hw.below hb; clear hb l0 l1 l2 l3 l4 l5; obtain ⟨l0, l1, l2, l3, l4, l5⟩ := hh.cells)
          | (go_at_call 30; refine (c30 _ bx).mono ?_; rintro e w2 ⟨R2, rfl, hR, hRl, hb⟩; replace bel := seq_below bel hb; replace bx := seq_below bx hb; replace hh := hh.below hb; replace hw := hw.below hb; clear hb l0 l1 l2 l3 l4 l5; obtain ⟨l0, l1, l2, l3, l4, l5⟩ := hh.cells)
          | (go_at_call 23; refine (c23 _).mono ?_; rintro e w3 ⟨rfl, hb⟩; replace hR := words_below hR hb; replace bel := seq_below bel hb; replace bx := seq_below bx hb; replace hh := hh.below hb; replace hw := hw.below hb; clear hb l0 l1 l2 l3 l4 l5; obtain ⟨l0, l1, l2, l3, l4, l5⟩ := hh.cells)
          | (go_at_call 31; refine (c31 _).mono ?_; rintro e w4 ⟨R31, cap31, rfl, _, _, hb⟩; replace hR := words_below hR hb; replace bel := seq_below bel hb; replace bx := seq_below bx hb; replace hh := hh.below hb; replace hw := hw.below hb; clear hb l0 l1 l2 l3 l4 l5; obtain ⟨l0, l1, l2, l3, l4, l5⟩ := hh.cells)
          | (go_at_call 18; refine (c18 _).mono ?_; rintro e w5 ⟨rfl, hb⟩; replace hR := words_below hR hb; replace bel := seq_below bel hb; replace bx := seq_below bx hb; replace hh := hh.below hb; replace hw := hw.below hb; clear hb l0 l1 l2 l3 l4 l5; obtain ⟨l0, l1, l2, l3, l4, l5⟩ := hh.cells)
          | (go_at_call 32; with_reducible refine (c32 _ bx R2 hR).mono ?_; rintro e w6 ⟨rfl, hb⟩; replace bel := seq_below bel hb; replace bx := seq_below bx hb; replace hh := hh.below hb; replace hw := hw.below hb; clear hb l0 l1 l2 l3 l4 l5; obtain ⟨l0, l1, l2, l3, l4, l5⟩ := hh.cells)
          | (go_at_call 10; refine (awake_any _ hw).mono ?_; rintro e w7 ⟨rfl, hb⟩; replace bel := seq_below bel hb))
        go_ret
        exact ⟨rfl, bel⟩
      · obtain ⟨c23, c30⟩ := hno hs M M R
        clear hyes hno hwz hZl hZ
        go_wp2_with (first
          | (go_at_call 28; refine (c28 _).mono ?_; rintro e w1 ⟨rfl, hb⟩; replace bel := seq_below bel hb; replace hh := hh.below hb; replace hw := hw.below hb; clear hb l0 l1 l2 l3 l4 l5; obtain ⟨l0, l1, l2, l3, l4, l5⟩ := hh.cells)
          | (go_at_call 30; refine (c30 _).mono ?_; rintro e w2 ⟨rfl, hb⟩; replace bel := seq_below bel hb; replace hh := hh.below hb; replace hw := hw.below hb; clear hb l0 l1 l2 l3 l4 l5; obtain ⟨l0, l1, l2, l3, l4, l5⟩ := hh.cells)
          | (go_at_call 23; refine (c23 _).mono ?_; rintro e w3 ⟨rfl, hb⟩; replace bel := seq_below bel hb; replace hh := hh.below hb; replace hw := hw.below hb; clear hb l0 l1 l2 l3 l4 l5; obtain ⟨l0, l1, l2, l3, l4, l5⟩ := hh.cells)
          | (go_at_call 31; refine (c31 _).mono ?_; rintro e w3 ⟨R31, cap31, rfl, _, _, hb⟩; replace bel := seq_below bel hb; replace hh := hh.below hb; replace hw := hw.below hb; clear hb l0 l1 l2 l3 l4 l5; obtain ⟨l0, l1, l2, l3, l4, l5⟩ := hh.cells)
          | (go_at_call 10; refine (awake_any _ hw).mono ?_; rintro e w5 ⟨rfl, hb⟩; replace bel := seq_below bel hb))
        go_ret
        exact ⟨rfl, bel⟩

theorem bodies_law (s a c d g k : Int) (ad : Option Addr) (n cap : Nat) (Y : List Nat) (hl : Y.length = n) (slot : Int) (ft : Bool) (w : World) (hw : WT w) (hR : SrW w ad Y) (hc : n ≤ cap) :
    Calls Tryd.prog 6 #[.agg (cs s a c d g k), .slice ad n cap, .int .i64 slot, .bool ft] w fun e w' => e = .returned (.bool true) ∧ Below w.heap.size w w' := by
  by_cases hn : n ≤ 700
  · cases hr : rightB s a c d g k with
    | false => exact bodies_wrong hr w hw hn
    | true =>
      obtain ⟨K, hK, rfl, rfl, rfl, rfl, rfl, rfl⟩ := Cf.of_right hr
      cases ft with
      | false => exact bodies_plain hK (.inl rfl) w hw hn hl hR hc
      | true =>
        by_cases h20 : (K.S : Int) ≤ 20
        · exact bodies_fit hK h20 w hw hn hl hR
        · exact bodies_plain hK (.inr ⟨rfl, h20⟩) w hw hn hl hR hc
  · exact bodies_long w hw (by omega)
end Go.Proofs.YtjbjijkkmlehgaaDoor
