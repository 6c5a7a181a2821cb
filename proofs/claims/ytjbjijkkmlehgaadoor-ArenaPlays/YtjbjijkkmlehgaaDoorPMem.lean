/- The words of a new memory, and the contract of plan.Memory. -/
import Derived.Test.YtjbjijkkmlehgaaDoorPAt
import Derived.Test.YtjbjijkkmlehgaaDoorPSizes
import Derived.Test.YtjbjijkkmlehgaaDoorMMake
import Derived.Test.YtjbjijkkmlehgaaDoorTBase
namespace Go.Proofs.YtjbjijkkmlehgaaDoor
open Go.RowKit
open Mm (IsWords IsMem zeroMS wordsOf made_words of_grown Only)

/-- A word of a new memory in which the links of the first k slots are laid. -/
def memK (C D B k p : Nat) : Nat := if p = 0 ∨ p = 3 then 1 else if (wat C D B p).1 = 9 ∧ (wat C D B p).2.1 < k then (wat C D B p).2.1 + 2 else 0
def memX (C D B N k : Nat) : List Nat := (List.range N).map (memK C D B k)

theorem memX_len (C D B N k : Nat) : (memX C D B N k).length = N := by simp [memX]
theorem memX_lt (C D B S k : Nat) (hD : 1 ≤ D) (hS : S ≤ 64) : ∀ x ∈ memX C D B (nW C D B S) k, x < 18446744073709551616 := by
  intro x hx
  simp only [memX, List.mem_map, List.mem_range] at hx
  obtain ⟨p, hp, rfl⟩ := hx
  have := wat_b (C := C) (D := D) (B := B) (S := S) hD hp
  unfold memK
  split
  · omega
  · split
    · omega
    · omega
theorem mem0 (C D B N : Nat) : ((List.replicate N 0).set 0 1).set 3 1 = memX C D B N 0 := by
  apply List.ext_getElem
  · simp [memX]
  · intro p h1 h2
    simp only [List.getElem_set, memX, List.getElem_map, List.getElem_range, memK, List.getElem_replicate]
    by_cases h3 : 3 = p
    · rw [if_pos h3, if_pos (by omega)]
    · rw [if_neg h3]
      by_cases h0 : 0 = p
      · rw [if_pos h0, if_pos (by omega)]
      · rw [if_neg h0, if_neg (by omega), if_neg (by omega)]
theorem mem_step (C D B S k : Nat) : (memX C D B (nW C D B S) k).set (4 + C + C * D + 2 * C + k * (2 + B) + 1) (k + 2) = memX C D B (nW C D B S) (k + 1) := by
  apply List.ext_getElem
  · simp [memX]
  · intro p h1 h2
    simp only [List.getElem_set, memX, List.getElem_map, List.getElem_range]
    have hw := wat_link C D B k
    by_cases hp : 4 + C + C * D + 2 * C + k * (2 + B) + 1 = p
    · rw [if_pos hp, ← hp]
      unfold memK
      rw [hw, if_neg (by omega), if_pos ⟨rfl, by show k < k + 1; omega⟩]
    · rw [if_neg hp]
      unfold memK
      by_cases h03 : p = 0 ∨ p = 3
      · rw [if_pos h03, if_pos h03]
      · rw [if_neg h03, if_neg h03]
        by_cases h9 : (wat C D B p).1 = 9 ∧ (wat C D B p).2.1 < k
        · rw [if_pos h9, if_pos ⟨h9.1, by omega⟩]
        · rw [if_neg h9, if_neg]
          rintro ⟨h91, h92⟩
          have h2 : (wat C D B p).2.1 = k := by omega
          have h3 := pos_wat C D B p
          unfold pos at h3
          rw [h91, h2] at h3
          simp at h3
          exact hp h3

theorem words_set (X : List Nat) (i v : Nat) : wordsOf (X.set i v) = (wordsOf X).setIfInBounds i (.int .u64 (v : Nat)) := by
  apply Array.ext'
  simp [wordsOf, List.map_set]
theorem words_stored {w : World} {R : Nat} {X : List Nat} (h : IsWords w R X) (i n : Nat) (v : Int) (hv : (n : Int) = v) : IsWords (w.setCell ⟨R, i, none⟩ (.int .u64 v)) R (X.set i n) := by
  subst hv
  show (w.setCell ⟨R, i, none⟩ _).heap[R]? = _
  rw [Mm.heap_setCell_at h, words_set]
theorem words_some {w : World} {R : Nat} {X : List Nat} (h : IsWords w R X) (i : Nat) (hi : i < X.length) : ∃ v : Nat, w.cell? ⟨R, i, none⟩ = some (.int .u64 (v : Nat)) := ⟨_, Mm.words_at h i hi⟩
theorem words_below {w w' : World} {R : Nat} {X : List Nat} (h : IsWords w R X) (b : Below w.heap.size w w') : IsWords w' R X := by
  show w'.heap[R]? = _
  rw [b.block R (lt_of_block h)]; exact h
theorem words_free {w : World} {R : Nat} {X : List Nat} (h : IsWords w R X) (i : Nat) : w.frozen? ⟨R, i, none⟩ = false := by
  have h' : w.heap[R]? = _ := h
  simp [World.frozen?, h']
theorem block_stored {w : World} {R i b : Nat} (v : Value) (hb : b < w.heap.size) (hne : b ≠ R) : (w.setCell ⟨R, i, none⟩ v).heap[b]? = w.heap[b]? :=
  ((Only.refl R R w).setCell (.inl rfl) v).block b hb hne hne
theorem cfg_stored {w : World} {Bc R i : Nat} {s a c d g k : Int} (h : IsCfg w Bc s a c d g k) (hne : Bc ≠ R) (v : Value) : IsCfg (w.setCell ⟨R, i, none⟩ v) Bc s a c d g k := by
  show (w.setCell _ _).heap[Bc]? = _
  rw [block_stored v h.lt hne]; exact h
theorem list_stored {w : World} {Q R i C D B n : Nat} (h : IsL w Q C D B n) (hne : Q ≠ R) (v : Value) : IsL (w.setCell ⟨R, i, none⟩ v) Q C D B n := by
  have hl := h.lt
  obtain ⟨cur, h1, h2⟩ := h
  exact ⟨cur, (block_stored v hl hne).trans h1, h2⟩

theorem top0 (w : World) : Calls Tryd.prog 36 #[.int .u64 0, .int .i64 0] w fun e w' => e = .returned (.tuple #[.int .u64 1, .bool true]) ∧ Below w.heap.size w w' := by
  have h := Tg.top_any 0 0 (by omega) w
  rw [show Tg.topW 16 0 0 = 1 by decide, show Tg.topOk 16 0 0 = true by decide] at h
  exact h

theorem of_n {R N : Nat} {X : List Nat} {w : World} (h : IsWords w R X) (hX : ∀ x ∈ X, x < 18446744073709551616) (hN : X.length = N) (hl : N ≤ 65536) :
    Calls Tryd.prog 38 #[.slice (some ⟨R, 0, none⟩) N N] w fun e w' => ∃ M G, e = .returned (.pointer (some ⟨M, 0, none⟩)) ∧ IsMem w' M G (zeroMS X) ∧ w.heap.size ≤ M ∧ w.heap.size ≤ G ∧ Below w.heap.size w w' := by
  subst hN
  exact Mm.of_any h hX hl

theorem nW_b {C D B S : Nat} (hC : C ≤ 8) (hD : D ≤ 16) (hS : S ≤ 64) (hB8 : B ≤ 8) : 4 ≤ nW C D B S ∧ nW C D B S ≤ 796 := by
  have h1 : C * D ≤ 128 := Nat.mul_le_mul hC hD
  have h2 : S * (2 + B) ≤ 640 := Nat.mul_le_mul hS (by omega : 2 + B ≤ 10)
  unfold nW; omega

set_option maxHeartbeats 1000000 in
theorem memory_no {s a c d g k : Int} (hr : rightB s a c d g k = false) (w : World) : Calls Tryd.prog 9 #[.agg (cs s a c d g k)] w fun e w' => e = .returned (.pointer none) ∧ Below w.heap.size w w' := by
  have c1 := right_any s a c d g k
  rw [hr] at c1
  have bel := alloc_below w (.cells #[.int .i64 s, .int .i64 a, .int .i64 c, .int .i64 d, .int .i64 g, .int .i64 k] 23)
  have hh := cfg_new w s a c d g k
  go_enter Tryd.func9, Tryd.ntmps9
  go_wp2_with (go_at_call 34; refine (c1 _).mono ?_; rintro e w1 ⟨rfl, b⟩; replace bel := seq_below bel b; replace hh := hh.below b)
  go_ret
  exact ⟨rfl, bel⟩

set_option maxRecDepth 100000 in
set_option maxHeartbeats 4000000 in
theorem memory_yes {C D S B : Nat} {a g k : Int} (hr : rightB S a C D g k = true) (hB : bsI a = (B : Int)) (hB8 : B ≤ 8) (hC : C ≤ 8) (hD : D ≤ 16) (hS : S ≤ 64) (hS1 : 1 ≤ S) (hD1 : 1 ≤ D) (w : World) :
    Calls Tryd.prog 9 #[.agg (cs S a C D g k)] w fun e w' => ∃ M G, e = .returned (.pointer (some ⟨M, 0, none⟩)) ∧ IsMem w' M G (zeroMS (memX C D B (nW C D B S) (S - 1))) ∧ w.heap.size ≤ M ∧ w.heap.size ≤ G ∧ Below w.heap.size w w' := by
  obtain ⟨i0, hi, hz0, hz1, hz2⟩ := info_parts Mm.Tryd.info35
  have c1 := right_any S a C D g k
  rw [hr] at c1
  have c2 := size_yes hr
  rw [szI_nat C D S B a hB] at c2
  have c3 := top0
  have hl : ∀ i : Nat, i < S → ∀ w, Calls Tryd.prog 37 #[.agg (cs S a C D g k), .int .i64 (i : Nat)] w fun e w' => e = .returned (.int .i64 ((4 + C + C * D + 2 * C + i * (2 + B) + 1 : Nat) : Int)) ∧ Below w.heap.size w w' := fun i hi w => by
    have h := link_yes (g := g) (k := k) (i : Int) hr (be_iff.2 (by omega)) w
    rw [show fsI C D = ((4 + C + C * D + 2 * C : Nat) : Int) by unfold fsI; push_cast; rfl, show ssI a = ((2 + B : Nat) : Int) by unfold ssI; rw [hB]; omega,
      show ((4 + C + C * D + 2 * C : Nat) : Int) + (i : Int) * ((2 + B : Nat) : Int) + 1 = ((4 + C + C * D + 2 * C + i * (2 + B) + 1 : Nat) : Int) by push_cast; rfl] at h
    exact h
  have hX := memX_lt C D B S (S - 1) hD1 hS
  have hms := fun i => mem_step C D B S i
  have hlt : ∀ i, i < S → 4 + C + C * D + 2 * C + i * (2 + B) + 1 < nW C D B S := fun i hi => by have := mul_lt S (2 + B) i 1 hi (by omega); unfold nW; omega
  obtain ⟨hN4, hN⟩ := nW_b hC hD hS hB8
  have h0 := mem0 C D B (nW C D B S)
  have hlen := memX_len C D B (nW C D B S)
  clear hr hC hD hB
  generalize nW C D B S = N at *
  have bel := alloc_below w (.cells #[.int .i64 S, .int .i64 a, .int .i64 C, .int .i64 D, .int .i64 g, .int .i64 k] 23)
  have hh := cfg_new w S a C D g k
  go_enter Tryd.func9, Tryd.ntmps9
  go_upto_region 1 with fail
  generalize w.alloc (.cells #[.int .i64 S, .int .i64 a, .int .i64 C, .int .i64 D, .int .i64 g, .int .i64 k] 23) = w1 at *
  obtain ⟨l0, l1, l2, l3, l4, l5⟩ := hh.cells
  go_upto_region 4 with (first
    | (go_at_call 34; refine (c1 _).mono ?_; rintro e w2 ⟨rfl, b⟩; replace bel := seq_below bel b; replace hh := hh.below b; obtain ⟨l0, l1, l2, l3, l4, l5⟩ := hh.cells)
    | (go_at_call 35; refine (c2 _).mono ?_; rintro e w3 ⟨rfl, b⟩; replace bel := seq_below bel b; replace hh := hh.below b; obtain ⟨l0, l1, l2, l3, l4, l5⟩ := hh.cells)
    | (at_make; refine wpList_make_full _ rfl _ _ 44 rfl w3.heap.size 35 i0 (.int .u64 0) 1 Tryd.underlying44 hi hz0 hz1 .i64 .i64 N N N rfl rfl rfl rfl ?c1 ?c2 (Nat.le_refl _) ?_))
  case c1 => rw [hz2]; omega
  case c2 => unfold maxLen; omega
  intro w4 hown hgrow
  have hwr := made_words hown rfl
  have hb := of_grown hgrow
  have hR : w.heap.size < w3.heap.size := hh.lt
  replace bel := seq_below bel hb
  replace hh := hh.below hb
  clear hown hgrow hb l0 l1 l2 l3 l4 l5 c1 c2
  generalize w3.heap.size = R at *
  have f0 := words_free hwr 0
  obtain ⟨v0, q0⟩ := words_some hwr 0 (by simp; omega)
  go_upto_region 5 with fail
  replace hwr := words_stored hwr 0 1 1 rfl
  replace hh := cfg_stored (i := 0) hh (by omega : w.heap.size ≠ R) (.int .u64 1)
  replace bel := bel.setCell (p := ⟨R, 0, none⟩) (by omega : w.heap.size ≤ R) (.int .u64 1)
  clear f0 q0 v0
  generalize w4.setCell ⟨R, 0, none⟩ (.int .u64 1) = w5 at *
  go_upto_region 6 with (first
    | (go_at_call 36; refine (c3 _).mono ?_; rintro e w6 ⟨rfl, b⟩; replace bel := seq_below bel b; replace hh := hh.below b; replace hwr := words_below hwr b; have f3 := words_free hwr 3; obtain ⟨v3, q3⟩ := words_some hwr 3 (by simp; omega)))
  replace hwr := words_stored hwr 3 1 1 rfl
  replace hh := cfg_stored (i := 3) hh (by omega : w.heap.size ≠ R) (.int .u64 1)
  replace bel := bel.setCell (p := ⟨R, 3, none⟩) (by omega : w.heap.size ≤ R) (.int .u64 1)
  clear f3 q3 v3
  generalize w6.setCell ⟨R, 3, none⟩ (.int .u64 1) = w7 at *
  rw [h0] at hwr
  obtain ⟨l0, l1, l2, l3, l4, l5⟩ := hh.cells
  go_wp2
  go_loopw [22] (fun i wr => ∃ n : Nat, n ≤ S - 1 ∧ i = .int .i64 n ∧ IsWords wr R (memX C D B N n) ∧ IsCfg wr w.heap.size S a C D g k ∧ Below w.heap.size w wr) (fun i _ => S - (intOf i).toNat)
  case atStart => exact ⟨0, Nat.zero_le _, rfl, hwr, hh, bel⟩
  case round =>
    clear hwr hh bel l0 l1 l2 l3 l4 l5
    obtain ⟨n, hn, rfl, hw, hc, hb⟩ := hrel
    obtain ⟨l0, l1, l2, l3, l4, l5⟩ := hc.cells
    by_cases hnl : n < S - 1
    · have cl := hl n (by omega)
      have hP := hlt n (by omega)
      have hs := hms n
      have hln := hlen n
      clear hl hlt hms hX h0 hlen
      generalize 4 + C + C * D + 2 * C + n * (2 + B) + 1 = P at *
      go_wp2_with (first
        | (go_at_call 37; refine (cl _).mono ?_; rintro e wA ⟨rfl, b⟩; replace hb := seq_below hb b; replace hc := hc.below b; replace hw := words_below hw b; have fP := words_free hw P; obtain ⟨vP, qP⟩ := words_some hw P (by rw [hln]; omega)))
      go_roundw
      case rel => exact ⟨n + 1, by omega, by go_num, hs ▸ words_stored hw P (n + 2) _ (by push_cast; rfl), cfg_stored hc (by omega : w.heap.size ≠ R) _, hb.setCell (p := ⟨R, P, none⟩) (by omega : w.heap.size ≤ R) _⟩
      case measure => simp [intOf]; omega
    · have hnS : n = S - 1 := by omega
      subst hnS
      have co := of_n hw hX (hlen _) (by omega)
      clear hl hlt hms hX h0 hlen
      go_wp2_with (first
        | (go_at_call 38; refine co.mono ?_; rintro e wB ⟨M, G, rfl, hm, hM, hG, b⟩))
      go_ret
      exact ⟨M, G, rfl, hm, Nat.le_trans hb.size hM, Nat.le_trans hb.size hG, seq_below hb b⟩
end Go.Proofs.YtjbjijkkmlehgaaDoor
