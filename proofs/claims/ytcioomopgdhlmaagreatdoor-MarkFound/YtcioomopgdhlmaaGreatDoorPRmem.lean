/- The contract of the reference's Memory. -/
import Derived.Test.YtcioomopgdhlmaaGreatDoorPMem
namespace Go.Proofs.YtcioomopgdhlmaaGreatDoor
open Go.RowKit
open Mm (IsWords IsMem zeroMS wordsOf made_words of_grown Only)

/-- The words of which the first i are laid. -/
def mixX (C D B N S i : Nat) : List Nat := (List.range N).map fun p => if p < i then memK C D B (S - 1) p else memK C D B 0 p
theorem mix_len (C D B N S i : Nat) : (mixX C D B N S i).length = N := by simp [mixX]
theorem mix0 (C D B N S : Nat) : memX C D B N 0 = mixX C D B N S 0 := by simp [mixX, memX]
theorem mixN (C D B N S : Nat) : mixX C D B N S N = memX C D B N (S - 1) := by
  apply List.ext_getElem
  · simp [mixX, memX]
  · intro p h1 h2
    have : p < N := by simpa [mixX] using h1
    simp [mixX, memX, this]
theorem mix_set (C D B N S i : Nat) (h : (wat C D B i).1 = 9) (h2 : (wat C D B i).2.1 + 1 < S) : (mixX C D B N S i).set i ((wat C D B i).2.1 + 2) = mixX C D B N S (i + 1) := by
  apply List.ext_getElem
  · simp [mixX]
  · intro p h1 _
    simp only [List.getElem_set, mixX, List.getElem_map, List.getElem_range]
    by_cases hp : i = p
    · subst hp
      rw [if_pos rfl, if_pos (by omega)]
      have hk := kind_range (C := C) (D := D) (B := B) (p := i)
      unfold memK
      rw [if_neg (by omega), if_pos ⟨h, by omega⟩]
    · rw [if_neg hp]
      by_cases hl : p < i
      · rw [if_pos hl, if_pos (by omega)]
      · rw [if_neg hl, if_neg (by omega)]
theorem mix_same (C D B N S i : Nat) (h : ¬ ((wat C D B i).1 = 9 ∧ (wat C D B i).2.1 + 1 < S)) : mixX C D B N S (i + 1) = mixX C D B N S i := by
  apply List.ext_getElem
  · simp [mixX]
  · intro p h1 _
    simp only [mixX, List.getElem_map, List.getElem_range]
    by_cases hp : p = i
    · subst hp
      rw [if_pos (by omega), if_neg (by omega)]
      unfold memK
      by_cases h03 : p = 0 ∨ p = 3
      · rw [if_pos h03, if_pos h03]
      · rw [if_neg h03, if_neg h03, if_neg (fun k => h ⟨k.1, by omega⟩), if_neg (by omega)]
    · by_cases hl : p < i
      · rw [if_pos hl, if_pos (by omega)]
      · rw [if_neg hl, if_neg (by omega)]

set_option linter.unusedSimpArgs false in
set_option maxHeartbeats 8000000 in
set_option maxRecDepth 20000 in
theorem rmemory_any (C D S B : Nat) (a g k : Int) (hB : bsI a = (B : Int)) (hB8 : B ≤ 8) (hC : C ≤ 8) (hD : D ≤ 16) (hS : S ≤ 64) (hD1 : 1 ≤ D) (w : World) :
    Calls Tryz.prog 35 #[.agg (cs S a C D g k)] w fun e w' => ∃ R, e = .returned (.slice (some ⟨R, 0, none⟩) (nW C D B S) (nW C D B S)) ∧ IsWords w' R (memX C D B (nW C D B S) (S - 1)) ∧ w.heap.size ≤ R ∧ Below w.heap.size w w' := by
  obtain ⟨i0, hi, hz0, hz1, hz2⟩ := info_parts Mm.Tryz.info26
  have c2 := words_r C D S B a g k hC hD hS hB hB8
  obtain ⟨hN4, hN⟩ := nW_b hC hD hS hB8
  have h0 := (mem0 C D B (nW C D B S)).trans (mix0 C D B (nW C D B S) S)
  have hset := mix_set C D B (nW C D B S) S
  have hsame := mix_same C D B (nW C D B S) S
  have hend := mixN C D B (nW C D B S) S
  have h9 : ∀ j, j < nW C D B S → (wat C D B j).1 = 9 → (wat C D B j).2.1 < S := fun j hj hk => by have := wat_b (S := S) hD1 hj; omega
  have hlen := mix_len C D B (nW C D B S) S
  clear hC hD hB
  generalize nW C D B S = N at *
  have bel := alloc_below w (.cells #[.int .i64 S, .int .i64 a, .int .i64 C, .int .i64 D, .int .i64 g, .int .i64 k] 23)
  have hh := cfg_new w S a C D g k
  go_enter Tryz.func35, Tryz.ntmps35
  go_upto_region 1 with fail
  generalize w.alloc (.cells #[.int .i64 S, .int .i64 a, .int .i64 C, .int .i64 D, .int .i64 g, .int .i64 k] 23) = w1 at *
  obtain ⟨l0, l1, l2, l3, l4, l5⟩ := hh.cells
  go_upto_region 3 with (first
    | (go_at_call 27; refine (c2 _).mono ?_; rintro e w3 ⟨Q, cap, rfl, hL, hQ, b⟩; replace hQ := Nat.lt_of_lt_of_le hh.lt hQ; replace bel := seq_below bel b; replace hh := hh.below b; obtain ⟨l0, l1, l2, l3, l4, l5⟩ := hh.cells)
    | (at_make; refine wpList_make_full _ rfl _ _ 25 rfl w3.heap.size 26 i0 (.int .u64 0) 1 Tryz.underlying25 hi hz0 hz1 .i64 .i64 N N N rfl rfl rfl rfl ?c1 ?c2 (Nat.le_refl _) ?_))
  case c1 => rw [hz2]; omega
  case c2 => unfold maxLen; omega
  intro w4 hown hgrow
  have hwr := made_words hown rfl
  have hb := of_grown hgrow
  have hR : w.heap.size < w3.heap.size := hh.lt
  have hQR : Q < w3.heap.size := hL.lt
  replace bel := seq_below bel hb
  replace hh := hh.below hb
  replace hL := hL.below hb
  clear hown hgrow hb l0 l1 l2 l3 l4 l5 c2
  generalize w3.heap.size = R at *
  have f0 := words_free hwr 0
  obtain ⟨v0, q0⟩ := words_some hwr 0 (by simp; omega)
  go_upto_region 4 with fail
  replace hwr := words_stored hwr 0 1 1 rfl
  replace hh := cfg_stored (i := 0) hh (by omega : w.heap.size ≠ R) (.int .u64 1)
  replace bel := bel.setCell (p := ⟨R, 0, none⟩) (by omega : w.heap.size ≤ R) (.int .u64 1)
  replace hL := list_stored (i := 0) hL (by omega : Q ≠ R) (.int .u64 1)
  clear f0 q0 v0
  generalize w4.setCell ⟨R, 0, none⟩ (.int .u64 1) = w5 at *
  have f3 := words_free hwr 3
  obtain ⟨v3, q3⟩ := words_some hwr 3 (by simp; omega)
  go_upto_region 5 with fail
  replace hwr := words_stored hwr 3 1 1 rfl
  replace hh := cfg_stored (i := 3) hh (by omega : w.heap.size ≠ R) (.int .u64 1)
  replace bel := bel.setCell (p := ⟨R, 3, none⟩) (by omega : w.heap.size ≤ R) (.int .u64 1)
  replace hL := list_stored (i := 3) hL (by omega : Q ≠ R) (.int .u64 1)
  clear f3 q3 v3
  generalize w5.setCell ⟨R, 3, none⟩ (.int .u64 1) = w7 at *
  rw [h0] at hwr
  go_wp2
  go_loopw [5] (fun i wr => ∃ j : Nat, j ≤ N ∧ i = .int .i64 j ∧ IsWords wr R (mixX C D B N S j) ∧ IsL wr Q C D B N ∧ IsCfg wr w.heap.size S a C D g k ∧ Below w.heap.size w wr) (fun i _ => N - (intOf i).toNat)
  case atStart => exact ⟨0, Nat.zero_le _, rfl, hwr, hL, hh, bel⟩
  case round =>
    clear hwr hh bel hL
    obtain ⟨j, hj, rfl, hw, hL, hc, hb⟩ := hrel
    by_cases hjl : j < N
    · have hw8 : ∀ w', Below wr.heap.size wr w' → IsWords w' R (mixX C D B N S j) ∧ IsL w' Q C D B N ∧ IsCfg w' w.heap.size S a C D g k ∧ Below w.heap.size w w' := fun w' hw' => ⟨words_below hw hw', hL.below hw', hc.below hw', hb.trans (hw'.mono hb.size)⟩
      have hln := hlen j
      have hst := hset j
      have hsm := hsame j
      have hle := wat_le C D B j
      have h9j := h9 j hjl
      have e1 : ∀ w', Below wr.heap.size wr w' → _ := fun w' hw' => (hL.below hw').at j hjl
      have e2 : ∀ w', Below wr.heap.size wr w' → _ := fun w' hw' => (hc.below hw').cells
      clear hw hL hc hset hsame hlen hend h0 h9
      generalize (wat C D B j).2.2 = Y at *
      generalize hX : (wat C D B j).2.1 = X at *
      generalize hK : (wat C D B j).1 = K at *
      have hall : K = 0 ∨ K = 1 ∨ K = 2 ∨ K = 3 ∨ K = 4 ∨ K = 5 ∨ K = 6 ∨ K = 7 ∨ K = 8 ∨ K = 9 ∨ K = 10 := by omega
      rcases hall with rfl | rfl | rfl | rfl | rfl | rfl | rfl | rfl | rfl | rfl | rfl
      · have e3 : ∀ w', Below wr.heap.size wr w' → w'.cell? ⟨Q, j * 3, none⟩ = some (.string ⟨#[99, 108, 111, 99, 107]⟩) ∧ w'.cell? ⟨Q, j * 3 + 1, none⟩ = some (.int .i64 (X : Nat)) := fun w' hw' => ⟨(e1 w' hw').1, (e1 w' hw').2.1⟩
        go_upto_region 8 with fail
        refine region_below (by kernel_rfl) (by kernel_rfl) ?_
        repeat (first | go_big_quiet_skip | (go_big_quiet_want; go_big_quiet_op; first | go_big_quiet_on | (refine ⟨_, fun _ _ => rfl, ?_⟩; go_big_quiet_on) | (refine ⟨.string ⟨#[99, 108, 111, 99, 107]⟩, ?_, ?_⟩; (focus (intro w' hw'; obtain ⟨t0, t1⟩ := e3 w' hw'; simp [t0, Result.andThen]; done)); go_big_quiet_on) | (refine ⟨.int .i64 (X : Nat), ?_, ?_⟩; (focus (intro w' hw'; obtain ⟨t0, t1⟩ := e3 w' hw'; simp [t1, Result.andThen]; done)); go_big_quiet_on) | (refine ⟨.int .i64 (S : Nat), ?_, ?_⟩; (focus (intro w' hw'; obtain ⟨t0, _⟩ := e2 w' hw'; simp [t0, Result.andThen]; done)); go_big_quiet_on)))
        refine wpQuiet_nil ?_
        intro w8 hb8
        obtain ⟨k1, k2, k3, k4⟩ := hw8 w8 hb8
        clear e1 e2 e3 hw8
        go_wp2
        go_roundw
        case rel => exact ⟨j + 1, by omega, by go_num, (hsm (by omega)).symm ▸ k1, k2, k3, k4⟩
        case measure => simp [intOf]; omega
      · have e3 : ∀ w', Below wr.heap.size wr w' → w'.cell? ⟨Q, j * 3, none⟩ = some (.string ⟨#[101, 112, 111, 99, 104]⟩) ∧ w'.cell? ⟨Q, j * 3 + 1, none⟩ = some (.int .i64 (X : Nat)) := fun w' hw' => ⟨(e1 w' hw').1, (e1 w' hw').2.1⟩
        go_upto_region 8 with fail
        refine region_below (by kernel_rfl) (by kernel_rfl) ?_
        repeat (first | go_big_quiet_skip | (go_big_quiet_want; go_big_quiet_op; first | go_big_quiet_on | (refine ⟨_, fun _ _ => rfl, ?_⟩; go_big_quiet_on) | (refine ⟨.string ⟨#[101, 112, 111, 99, 104]⟩, ?_, ?_⟩; (focus (intro w' hw'; obtain ⟨t0, t1⟩ := e3 w' hw'; simp [t0, Result.andThen]; done)); go_big_quiet_on) | (refine ⟨.int .i64 (X : Nat), ?_, ?_⟩; (focus (intro w' hw'; obtain ⟨t0, t1⟩ := e3 w' hw'; simp [t1, Result.andThen]; done)); go_big_quiet_on) | (refine ⟨.int .i64 (S : Nat), ?_, ?_⟩; (focus (intro w' hw'; obtain ⟨t0, _⟩ := e2 w' hw'; simp [t0, Result.andThen]; done)); go_big_quiet_on)))
        refine wpQuiet_nil ?_
        intro w8 hb8
        obtain ⟨k1, k2, k3, k4⟩ := hw8 w8 hb8
        clear e1 e2 e3 hw8
        go_wp2
        go_roundw
        case rel => exact ⟨j + 1, by omega, by go_num, (hsm (by omega)).symm ▸ k1, k2, k3, k4⟩
        case measure => simp [intOf]; omega
      · have e3 : ∀ w', Below wr.heap.size wr w' → w'.cell? ⟨Q, j * 3, none⟩ = some (.string ⟨#[103, 114, 97, 121, 115]⟩) ∧ w'.cell? ⟨Q, j * 3 + 1, none⟩ = some (.int .i64 (X : Nat)) := fun w' hw' => ⟨(e1 w' hw').1, (e1 w' hw').2.1⟩
        go_upto_region 8 with fail
        refine region_below (by kernel_rfl) (by kernel_rfl) ?_
        repeat (first | go_big_quiet_skip | (go_big_quiet_want; go_big_quiet_op; first | go_big_quiet_on | (refine ⟨_, fun _ _ => rfl, ?_⟩; go_big_quiet_on) | (refine ⟨.string ⟨#[103, 114, 97, 121, 115]⟩, ?_, ?_⟩; (focus (intro w' hw'; obtain ⟨t0, t1⟩ := e3 w' hw'; simp [t0, Result.andThen]; done)); go_big_quiet_on) | (refine ⟨.int .i64 (X : Nat), ?_, ?_⟩; (focus (intro w' hw'; obtain ⟨t0, t1⟩ := e3 w' hw'; simp [t1, Result.andThen]; done)); go_big_quiet_on) | (refine ⟨.int .i64 (S : Nat), ?_, ?_⟩; (focus (intro w' hw'; obtain ⟨t0, _⟩ := e2 w' hw'; simp [t0, Result.andThen]; done)); go_big_quiet_on)))
        refine wpQuiet_nil ?_
        intro w8 hb8
        obtain ⟨k1, k2, k3, k4⟩ := hw8 w8 hb8
        clear e1 e2 e3 hw8
        go_wp2
        go_roundw
        case rel => exact ⟨j + 1, by omega, by go_num, (hsm (by omega)).symm ▸ k1, k2, k3, k4⟩
        case measure => simp [intOf]; omega
      · have e3 : ∀ w', Below wr.heap.size wr w' → w'.cell? ⟨Q, j * 3, none⟩ = some (.string ⟨#[116, 111, 112]⟩) ∧ w'.cell? ⟨Q, j * 3 + 1, none⟩ = some (.int .i64 (X : Nat)) := fun w' hw' => ⟨(e1 w' hw').1, (e1 w' hw').2.1⟩
        go_upto_region 8 with fail
        refine region_below (by kernel_rfl) (by kernel_rfl) ?_
        repeat (first | go_big_quiet_skip | (go_big_quiet_want; go_big_quiet_op; first | go_big_quiet_on | (refine ⟨_, fun _ _ => rfl, ?_⟩; go_big_quiet_on) | (refine ⟨.string ⟨#[116, 111, 112]⟩, ?_, ?_⟩; (focus (intro w' hw'; obtain ⟨t0, t1⟩ := e3 w' hw'; simp [t0, Result.andThen]; done)); go_big_quiet_on) | (refine ⟨.int .i64 (X : Nat), ?_, ?_⟩; (focus (intro w' hw'; obtain ⟨t0, t1⟩ := e3 w' hw'; simp [t1, Result.andThen]; done)); go_big_quiet_on) | (refine ⟨.int .i64 (S : Nat), ?_, ?_⟩; (focus (intro w' hw'; obtain ⟨t0, _⟩ := e2 w' hw'; simp [t0, Result.andThen]; done)); go_big_quiet_on)))
        refine wpQuiet_nil ?_
        intro w8 hb8
        obtain ⟨k1, k2, k3, k4⟩ := hw8 w8 hb8
        clear e1 e2 e3 hw8
        go_wp2
        go_roundw
        case rel => exact ⟨j + 1, by omega, by go_num, (hsm (by omega)).symm ▸ k1, k2, k3, k4⟩
        case measure => simp [intOf]; omega
      · have e3 : ∀ w', Below wr.heap.size wr w' → w'.cell? ⟨Q, j * 3, none⟩ = some (.string ⟨#[112, 105, 110]⟩) ∧ w'.cell? ⟨Q, j * 3 + 1, none⟩ = some (.int .i64 (X : Nat)) := fun w' hw' => ⟨(e1 w' hw').1, (e1 w' hw').2.1⟩
        go_upto_region 8 with fail
        refine region_below (by kernel_rfl) (by kernel_rfl) ?_
        repeat (first | go_big_quiet_skip | (go_big_quiet_want; go_big_quiet_op; first | go_big_quiet_on | (refine ⟨_, fun _ _ => rfl, ?_⟩; go_big_quiet_on) | (refine ⟨.string ⟨#[112, 105, 110]⟩, ?_, ?_⟩; (focus (intro w' hw'; obtain ⟨t0, t1⟩ := e3 w' hw'; simp [t0, Result.andThen]; done)); go_big_quiet_on) | (refine ⟨.int .i64 (X : Nat), ?_, ?_⟩; (focus (intro w' hw'; obtain ⟨t0, t1⟩ := e3 w' hw'; simp [t1, Result.andThen]; done)); go_big_quiet_on) | (refine ⟨.int .i64 (S : Nat), ?_, ?_⟩; (focus (intro w' hw'; obtain ⟨t0, _⟩ := e2 w' hw'; simp [t0, Result.andThen]; done)); go_big_quiet_on)))
        refine wpQuiet_nil ?_
        intro w8 hb8
        obtain ⟨k1, k2, k3, k4⟩ := hw8 w8 hb8
        clear e1 e2 e3 hw8
        go_wp2
        go_roundw
        case rel => exact ⟨j + 1, by omega, by go_num, (hsm (by omega)).symm ▸ k1, k2, k3, k4⟩
        case measure => simp [intOf]; omega
      · have e3 : ∀ w', Below wr.heap.size wr w' → w'.cell? ⟨Q, j * 3, none⟩ = some (.string ⟨#[101, 110, 116, 114, 121]⟩) ∧ w'.cell? ⟨Q, j * 3 + 1, none⟩ = some (.int .i64 (X : Nat)) := fun w' hw' => ⟨(e1 w' hw').1, (e1 w' hw').2.1⟩
        go_upto_region 8 with fail
        refine region_below (by kernel_rfl) (by kernel_rfl) ?_
        repeat (first | go_big_quiet_skip | (go_big_quiet_want; go_big_quiet_op; first | go_big_quiet_on | (refine ⟨_, fun _ _ => rfl, ?_⟩; go_big_quiet_on) | (refine ⟨.string ⟨#[101, 110, 116, 114, 121]⟩, ?_, ?_⟩; (focus (intro w' hw'; obtain ⟨t0, t1⟩ := e3 w' hw'; simp [t0, Result.andThen]; done)); go_big_quiet_on) | (refine ⟨.int .i64 (X : Nat), ?_, ?_⟩; (focus (intro w' hw'; obtain ⟨t0, t1⟩ := e3 w' hw'; simp [t1, Result.andThen]; done)); go_big_quiet_on) | (refine ⟨.int .i64 (S : Nat), ?_, ?_⟩; (focus (intro w' hw'; obtain ⟨t0, _⟩ := e2 w' hw'; simp [t0, Result.andThen]; done)); go_big_quiet_on)))
        refine wpQuiet_nil ?_
        intro w8 hb8
        obtain ⟨k1, k2, k3, k4⟩ := hw8 w8 hb8
        clear e1 e2 e3 hw8
        go_wp2
        go_roundw
        case rel => exact ⟨j + 1, by omega, by go_num, (hsm (by omega)).symm ▸ k1, k2, k3, k4⟩
        case measure => simp [intOf]; omega
      · have e3 : ∀ w', Below wr.heap.size wr w' → w'.cell? ⟨Q, j * 3, none⟩ = some (.string ⟨#[118, 105, 101, 119]⟩) ∧ w'.cell? ⟨Q, j * 3 + 1, none⟩ = some (.int .i64 (X : Nat)) := fun w' hw' => ⟨(e1 w' hw').1, (e1 w' hw').2.1⟩
        go_upto_region 8 with fail
        refine region_below (by kernel_rfl) (by kernel_rfl) ?_
        repeat (first | go_big_quiet_skip | (go_big_quiet_want; go_big_quiet_op; first | go_big_quiet_on | (refine ⟨_, fun _ _ => rfl, ?_⟩; go_big_quiet_on) | (refine ⟨.string ⟨#[118, 105, 101, 119]⟩, ?_, ?_⟩; (focus (intro w' hw'; obtain ⟨t0, t1⟩ := e3 w' hw'; simp [t0, Result.andThen]; done)); go_big_quiet_on) | (refine ⟨.int .i64 (X : Nat), ?_, ?_⟩; (focus (intro w' hw'; obtain ⟨t0, t1⟩ := e3 w' hw'; simp [t1, Result.andThen]; done)); go_big_quiet_on) | (refine ⟨.int .i64 (S : Nat), ?_, ?_⟩; (focus (intro w' hw'; obtain ⟨t0, _⟩ := e2 w' hw'; simp [t0, Result.andThen]; done)); go_big_quiet_on)))
        refine wpQuiet_nil ?_
        intro w8 hb8
        obtain ⟨k1, k2, k3, k4⟩ := hw8 w8 hb8
        clear e1 e2 e3 hw8
        go_wp2
        go_roundw
        case rel => exact ⟨j + 1, by omega, by go_num, (hsm (by omega)).symm ▸ k1, k2, k3, k4⟩
        case measure => simp [intOf]; omega
      · have e3 : ∀ w', Below wr.heap.size wr w' → w'.cell? ⟨Q, j * 3, none⟩ = some (.string ⟨#[115, 116, 97, 114, 116]⟩) ∧ w'.cell? ⟨Q, j * 3 + 1, none⟩ = some (.int .i64 (X : Nat)) := fun w' hw' => ⟨(e1 w' hw').1, (e1 w' hw').2.1⟩
        go_upto_region 8 with fail
        refine region_below (by kernel_rfl) (by kernel_rfl) ?_
        repeat (first | go_big_quiet_skip | (go_big_quiet_want; go_big_quiet_op; first | go_big_quiet_on | (refine ⟨_, fun _ _ => rfl, ?_⟩; go_big_quiet_on) | (refine ⟨.string ⟨#[115, 116, 97, 114, 116]⟩, ?_, ?_⟩; (focus (intro w' hw'; obtain ⟨t0, t1⟩ := e3 w' hw'; simp [t0, Result.andThen]; done)); go_big_quiet_on) | (refine ⟨.int .i64 (X : Nat), ?_, ?_⟩; (focus (intro w' hw'; obtain ⟨t0, t1⟩ := e3 w' hw'; simp [t1, Result.andThen]; done)); go_big_quiet_on) | (refine ⟨.int .i64 (S : Nat), ?_, ?_⟩; (focus (intro w' hw'; obtain ⟨t0, _⟩ := e2 w' hw'; simp [t0, Result.andThen]; done)); go_big_quiet_on)))
        refine wpQuiet_nil ?_
        intro w8 hb8
        obtain ⟨k1, k2, k3, k4⟩ := hw8 w8 hb8
        clear e1 e2 e3 hw8
        go_wp2
        go_roundw
        case rel => exact ⟨j + 1, by omega, by go_num, (hsm (by omega)).symm ▸ k1, k2, k3, k4⟩
        case measure => simp [intOf]; omega
      · have e3 : ∀ w', Below wr.heap.size wr w' → w'.cell? ⟨Q, j * 3, none⟩ = some (.string ⟨#[104, 101, 97, 100, 101, 114]⟩) ∧ w'.cell? ⟨Q, j * 3 + 1, none⟩ = some (.int .i64 (X : Nat)) := fun w' hw' => ⟨(e1 w' hw').1, (e1 w' hw').2.1⟩
        go_upto_region 8 with fail
        refine region_below (by kernel_rfl) (by kernel_rfl) ?_
        repeat (first | go_big_quiet_skip | (go_big_quiet_want; go_big_quiet_op; first | go_big_quiet_on | (refine ⟨_, fun _ _ => rfl, ?_⟩; go_big_quiet_on) | (refine ⟨.string ⟨#[104, 101, 97, 100, 101, 114]⟩, ?_, ?_⟩; (focus (intro w' hw'; obtain ⟨t0, t1⟩ := e3 w' hw'; simp [t0, Result.andThen]; done)); go_big_quiet_on) | (refine ⟨.int .i64 (X : Nat), ?_, ?_⟩; (focus (intro w' hw'; obtain ⟨t0, t1⟩ := e3 w' hw'; simp [t1, Result.andThen]; done)); go_big_quiet_on) | (refine ⟨.int .i64 (S : Nat), ?_, ?_⟩; (focus (intro w' hw'; obtain ⟨t0, _⟩ := e2 w' hw'; simp [t0, Result.andThen]; done)); go_big_quiet_on)))
        refine wpQuiet_nil ?_
        intro w8 hb8
        obtain ⟨k1, k2, k3, k4⟩ := hw8 w8 hb8
        clear e1 e2 e3 hw8
        go_wp2
        go_roundw
        case rel => exact ⟨j + 1, by omega, by go_num, (hsm (by omega)).symm ▸ k1, k2, k3, k4⟩
        case measure => simp [intOf]; omega
      · have hx9 := h9j rfl
        by_cases hx : X + 1 < S
        · have e3 : ∀ w', Below wr.heap.size wr w' → w'.cell? ⟨Q, j * 3, none⟩ = some (.string ⟨#[108, 105, 110, 107]⟩) ∧ w'.cell? ⟨Q, j * 3 + 1, none⟩ = some (.int .i64 (X : Nat)) := fun w' hw' => ⟨(e1 w' hw').1, (e1 w' hw').2.1⟩
          go_upto_region 8 with fail
          refine region_below (by kernel_rfl) (by kernel_rfl) ?_
          repeat (first | go_big_quiet_skip | (go_big_quiet_want; go_big_quiet_op; first | go_big_quiet_on | (refine ⟨_, fun _ _ => rfl, ?_⟩; go_big_quiet_on) | (refine ⟨.string ⟨#[108, 105, 110, 107]⟩, ?_, ?_⟩; (focus (intro w' hw'; obtain ⟨t0, t1⟩ := e3 w' hw'; simp [t0, Result.andThen]; done)); go_big_quiet_on) | (refine ⟨.int .i64 (X : Nat), ?_, ?_⟩; (focus (intro w' hw'; obtain ⟨t0, t1⟩ := e3 w' hw'; simp [t1, Result.andThen]; done)); go_big_quiet_on) | (refine ⟨.int .i64 (S : Nat), ?_, ?_⟩; (focus (intro w' hw'; obtain ⟨t0, _⟩ := e2 w' hw'; simp [t0, Result.andThen]; done)); go_big_quiet_on)))
          refine wpQuiet_nil ?_
          intro w8 hb8
          obtain ⟨k1, k2, k3, k4⟩ := hw8 w8 hb8
          obtain ⟨t0, t1⟩ := e3 w8 hb8
          have fj := words_free k1 j
          obtain ⟨vj, qj⟩ := words_some k1 j (by rw [hln]; omega)
          clear e1 e2 e3 hw8
          go_wp2
          go_roundw
          case rel => exact ⟨j + 1, by omega, by go_num, hst rfl (by omega) ▸ words_stored k1 j (X + 2) _ (by push_cast; rfl), list_stored k2 (by omega : Q ≠ R) _, cfg_stored k3 (by omega : w.heap.size ≠ R) _, k4.setCell (p := ⟨R, j, none⟩) (by omega : w.heap.size ≤ R) _⟩
          case measure => simp [intOf]; omega
        · have hxI : (S : Int) ≤ (X : Int) + 1 := by omega
          have hxd : decide ((X : Int) + 1 < (S : Int)) = false := decide_eq_false (by omega)
          have e3 : ∀ w', Below wr.heap.size wr w' → w'.cell? ⟨Q, j * 3, none⟩ = some (.string ⟨#[108, 105, 110, 107]⟩) ∧ w'.cell? ⟨Q, j * 3 + 1, none⟩ = some (.int .i64 (X : Nat)) := fun w' hw' => ⟨(e1 w' hw').1, (e1 w' hw').2.1⟩
          go_upto_region 8 with fail
          refine region_below (by kernel_rfl) (by kernel_rfl) ?_
          repeat (first | go_big_quiet_skip | (go_big_quiet_want; go_big_quiet_op; first | go_big_quiet_on | (refine ⟨_, fun _ _ => rfl, ?_⟩; go_big_quiet_on) | (refine ⟨.string ⟨#[108, 105, 110, 107]⟩, ?_, ?_⟩; (focus (intro w' hw'; obtain ⟨t0, t1⟩ := e3 w' hw'; simp [t0, Result.andThen]; done)); go_big_quiet_on) | (refine ⟨.int .i64 (X : Nat), ?_, ?_⟩; (focus (intro w' hw'; obtain ⟨t0, t1⟩ := e3 w' hw'; simp [t1, Result.andThen]; done)); go_big_quiet_on) | (refine ⟨.int .i64 (S : Nat), ?_, ?_⟩; (focus (intro w' hw'; obtain ⟨t0, _⟩ := e2 w' hw'; simp [t0, Result.andThen]; done)); go_big_quiet_on)))
          refine wpQuiet_nil ?_
          intro w8 hb8
          obtain ⟨k1, k2, k3, k4⟩ := hw8 w8 hb8
          clear e1 e2 e3 hw8
          go_wp2
          go_roundw
          case rel => exact ⟨j + 1, by omega, by go_num, (hsm (by omega)).symm ▸ k1, k2, k3, k4⟩
          case measure => simp [intOf]; omega
      · have e3 : ∀ w', Below wr.heap.size wr w' → w'.cell? ⟨Q, j * 3, none⟩ = some (.string ⟨#[98, 111, 100, 121]⟩) ∧ w'.cell? ⟨Q, j * 3 + 1, none⟩ = some (.int .i64 (X : Nat)) := fun w' hw' => ⟨(e1 w' hw').1, (e1 w' hw').2.1⟩
        go_upto_region 8 with fail
        refine region_below (by kernel_rfl) (by kernel_rfl) ?_
        repeat (first | go_big_quiet_skip | (go_big_quiet_want; go_big_quiet_op; first | go_big_quiet_on | (refine ⟨_, fun _ _ => rfl, ?_⟩; go_big_quiet_on) | (refine ⟨.string ⟨#[98, 111, 100, 121]⟩, ?_, ?_⟩; (focus (intro w' hw'; obtain ⟨t0, t1⟩ := e3 w' hw'; simp [t0, Result.andThen]; done)); go_big_quiet_on) | (refine ⟨.int .i64 (X : Nat), ?_, ?_⟩; (focus (intro w' hw'; obtain ⟨t0, t1⟩ := e3 w' hw'; simp [t1, Result.andThen]; done)); go_big_quiet_on) | (refine ⟨.int .i64 (S : Nat), ?_, ?_⟩; (focus (intro w' hw'; obtain ⟨t0, _⟩ := e2 w' hw'; simp [t0, Result.andThen]; done)); go_big_quiet_on)))
        refine wpQuiet_nil ?_
        intro w8 hb8
        obtain ⟨k1, k2, k3, k4⟩ := hw8 w8 hb8
        clear e1 e2 e3 hw8
        go_wp2
        go_roundw
        case rel => exact ⟨j + 1, by omega, by go_num, (hsm (by omega)).symm ▸ k1, k2, k3, k4⟩
        case measure => simp [intOf]; omega
    · have hjN : j = N := by omega
      rw [hjN] at hw ⊢
      rw [hend] at hw
      clear hset hsame hlen hend h0 h9 hjl hj hjN
      go_wp2
      go_ret
      exact ⟨R, rfl, hw, by omega, hb⟩
end Go.Proofs.YtcioomopgdhlmaaGreatDoor
