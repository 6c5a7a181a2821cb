/- The document's example of layer 13: the law's 'awake'. -/
import Derived.Test.YtcioomopgdhlmaaGreatDoorCSm
import Derived.Test.YtcioomopgdhlmaaGreatDoorCNm
namespace Go.Proofs.YtcioomopgdhlmaaGreatDoor
open Go.RowKit
open Mm (IsMem MS touched Only IsWords)
open Hh (WT okW wordOf IsHd)

/-- The words behind the example's Mark. -/
def awY : List Nat := (kmRun K4 awX (km0 2) 29).1
theorem awY_lt : ∀ x ∈ awY, x < 18446744073709551616 := by decide +kernel
theorem awX_lt : ∀ x ∈ awX, x < 18446744073709551616 := by decide +kernel
theorem getD_lt {X : List Nat} (h : ∀ x ∈ X, x < 18446744073709551616) (i : Nat) : X.getD i 0 < 18446744073709551616 := by
  by_cases hi : i < X.length
  · rw [show X.getD i 0 = X[i] by simp [hi]]
    exact h _ (List.getElem_mem hi)
  · rw [show X.getD i 0 = 0 by simp [Nat.le_of_not_lt hi]]
    omega
theorem aw_found {M : Nat → Bool} (h : Pi (gp K4 awX 2) [] [] M) : M 0 = true ∧ M 1 = true ∧ M 2 = true ∧ M 3 = false := by
  have hf := Pi.fin (gp_ok K4 awX 2) h
  have r0 : Rch (gp K4 awX 2) 0 := .root 0 (by show ((0 : Nat) : Int) ∈ rtL K4 awX K4.C; decide +kernel) (by decide +kernel)
  have r1 : Rch (gp K4 awX 2) 1 := .next 0 1 r0 (by show ((1 : Nat) : Int) ∈ nmL K4 awX 0; decide +kernel) (by decide +kernel)
  have r2 : Rch (gp K4 awX 2) 2 := .next 1 2 r1 (by show ((2 : Nat) : Int) ∈ nmL K4 awX 1; decide +kernel) (by decide +kernel)
  refine ⟨(hf 0).2 (.inr r0), (hf 1).2 (.inr r1), (hf 2).2 (.inr r2), ?_⟩
  cases h3 : M 3 with
  | false => rfl
  | true =>
    exfalso
    rcases (hf 3).1 h3 with h4 | h4
    · have : (gp K4 awX 2).m0 3 = false := by decide +kernel
      rw [this] at h4
      cases h4
    · cases h4 with
      | root _ h5 _ => exact absurd h5 (by show ¬ ((3 : Nat) : Int) ∈ rtL K4 awX K4.C; decide +kernel)
      | gray u _ hu hg _ _ =>
        have hall : ∀ u, u < 4 → grayW (awX.getD (K4.hd u) 0) = false := by decide +kernel
        have hg2 : grayW (awX.getD (K4.hd u) 0) = true := hg
        rw [hall u hu] at hg2
        cases hg2
      | next t _ ht hn _ =>
        have hall : ∀ t, t < 4 → ¬ ((3 : Nat) : Int) ∈ nmL K4 awX t := by decide +kernel
        exact hall t (ht.lt (gp_ok K4 awX 2)) hn
theorem rd_words {w : World} {R : Nat} {X : List Nat} (h : IsWords w R X) : RdW w R 0 X := RdW.of_words h
theorem aw_call22 {w : World} (hw : WT w) {R : Nat} (h : IsWords w R awX) : Calls Tryz.prog 6 #[.agg #[.int .i64 4, .int .i64 1, .int .i64 1, .int .i64 1, .int .i64 9, .int .i64 0], .slice (some ⟨R, 0, none⟩) 28 28, .int .u64 2] w fun r w' => ∃ R2, r = .returned (.slice (some ⟨R2, 0, none⟩) 4 4) ∧ w'.heap[R2]? = some (.cells #[.bool true, .bool true, .bool true, .bool false] 4 (0, 0)) ∧ w.heap.size ≤ R2 ∧ Below w.heap.size w w' := by
  have q := found_any hw K4_ok (by decide) (cap := 28) (e := 2) (rd_words h) aw_len (getD_lt awX_lt) (by omega)
  rw [K4_N] at q
  refine q.mono fun r w' ⟨R2, M, h1, h2, h3, h4, h5⟩ => ⟨R2, h1, ?_, h4, h5⟩
  obtain ⟨m0, m1, m2, m3⟩ := aw_found h2
  rw [h3]
  have eb : bools K4.S M = #[.bool (M 0), .bool (M 1), .bool (M 2), .bool (M 3)] := rfl
  rw [eb, m0, m1, m2, m3]
theorem aw_of {w : World} {R : Nat} (h : IsWords w R awX) : Calls Tryz.prog 12 #[.slice (some ⟨R, 0, none⟩) 28 28] w fun r w' => ∃ M G, r = .returned (.pointer (some ⟨M, 0, none⟩)) ∧ MemX w' M G awX 0 ∧ w.heap.size ≤ M ∧ w.heap.size ≤ G ∧ Below w.heap.size w w' := by
  have q := Mm.of_any h awX_lt (by rw [aw_len, K4_N]; omega)
  rw [aw_len, K4_N] at q
  exact q.mono fun r w' ⟨M, G, h1, h2, h3⟩ => ⟨M, G, h1, ⟨_, h2, rfl, rfl⟩, h3⟩
theorem aw_new (w : World) : Calls Tryz.prog 13 #[.agg #[.int .i64 4, .int .i64 1, .int .i64 1, .int .i64 1, .int .i64 9, .int .i64 0], .int .u64 2] w fun r w' => ∃ P c, r = .returned (.pointer (some ⟨P, 0, none⟩)) ∧ NewBlk w w' P c 82 ∧ KmAt c 0 K4 (km0 2) := newMark_yes K4_ok 2 w
theorem aw_ends {w : World} {M G P : Nat} {c : Array Value} (hm : MemX w M G awX 0) (hw : WT w) (hb : w.heap[P]? = some (.cells c 82 (0, 0))) (hk : KmAt c 0 K4 (km0 2)) (hP : P ≠ M ∧ P ≠ G) (h0 : 0 < P ∧ 0 < M ∧ 0 < G) :
    Calls Tryz.prog 14 #[.pointer (some ⟨P, 0, none⟩), .pointer (some ⟨M, 0, none⟩), .int .i64 2000] w fun e w' => e = .returned (.bool true) ∧ KmI w K4 M G P awX (km0 2) 0 29 w' :=
  km_ends K4_ok (by decide) (most := 2000) (T0 := 0) ⟨c, ⟨hm, hw, aw_len, by omega, hb, Chg.refl _ _, hP, h0⟩, hk⟩ (by omega) (by omega) (by omega) (by omega) aw_run
theorem aw_words {w : World} {M G : Nat} {T : Int} (h : MemX w M G awY T) (hl : awY.length = 28) : Calls Tryz.prog 16 #[.pointer (some ⟨M, 0, none⟩)] w fun r w' => ∃ R, r = .returned (.slice (some ⟨R, 0, none⟩) 28 28) ∧ IsWords w' R awY ∧ Below w.heap.size w w' := by
  obtain ⟨s, hs, h1, h2⟩ := h
  have q := Mm.words_any hs (by rw [h1, hl]; omega)
  rw [h1, hl] at q
  exact q.mono fun r w' ⟨R, e1, e2, _, e4⟩ => ⟨R, e1, e2, e4⟩
theorem aw_call24 {w : World} {R : Nat} (h : IsWords w R awY) (hl : awY.length = 28) : Calls Tryz.prog 15 #[.agg #[.int .i64 4, .int .i64 1, .int .i64 1, .int .i64 1, .int .i64 9, .int .i64 0], .slice (some ⟨R, 0, none⟩) 28 28, .int .u64 2] w fun r w' => ∃ g cp, r = .returned (.slice (some ⟨g, 0, none⟩) 4 cp) ∧ (∀ i, i < 4 → w'.cell? ⟨g, 0 + i, none⟩ = some (.bool (decide (i < 3)))) ∧ g < w'.heap.size ∧ Below w.heap.size w w' := by
  have q := lmarked_any K4_ok (cap := 28) (e := 2) (rd_words h) (by rw [hl, K4_N]) (getD_lt awY_lt) (by omega)
  rw [K4_N] at q
  refine q.mono fun r w' ⟨v, h1, h2, h3⟩ => ?_
  have hx : mkL K4 awY 2 K4.S = [.bool true, .bool true, .bool true, .bool false] := by
    have e1 := congrArg (List.map Value.bool) aw_marked
    rw [List.map_map] at e1
    exact e1
  rw [hx] at h2
  have h2' := h2
  rcases h2.2 with ⟨_, h4⟩ | ⟨g, cap, cur, rfl, _, hb, _⟩
  · exact absurd h4 (by decide)
  · refine ⟨g, cap, h1, fun i hi => ?_, lt_of_block hb, h3⟩
    have hc := World.ownsRow.cellAt h2' i (by show i < 4 * 1; omega)
    rw [Nat.zero_add, hc]
    have h5 : i = 0 ∨ i = 1 ∨ i = 2 ∨ i = 3 := by omega
    rcases h5 with rfl | rfl | rfl | rfl <;> rfl
theorem aw_call23 {w : World} {R2 g cp : Nat} (h : w.heap[R2]? = some (.cells #[.bool true, .bool true, .bool true, .bool false] 4 (0, 0))) (hc : ∀ i, i < 4 → w.cell? ⟨g, 0 + i, none⟩ = some (.bool (decide (i < 3)))) (hg : g < w.heap.size) :
    Calls Tryz.prog 5 #[.slice (some ⟨R2, 0, none⟩) 4 4, .slice (some ⟨g, 0, none⟩) 4 cp] w fun r w' => r = .returned (.bool true) ∧ Below w.heap.size w w' := by
  refine same_yes (M := fun i => decide (i < 3)) (by omega) (lt_of_block h) hg (fun i hi => ?_) hc
  have h5 : i = 0 ∨ i = 1 ∨ i = 2 ∨ i = 3 := by omega
  rcases h5 with rfl | rfl | rfl | rfl <;> simp [World.cell?, h]

structure Aw (w wr : World) (bc R M G : Nat) (X : List Nat) (T : Int) : Prop where
  mem : MemX wr M G X T
  wt : WT wr
  cfg : IsCfg wr bc 4 1 1 1 9 0
  row : IsWords wr R awX
  bel : Below w.heap.size w wr
theorem Aw.below {w wr w' : World} {bc R M G : Nat} {X : List Nat} {T : Int} (h : Aw w wr bc R M G X T) (b : Below wr.heap.size wr w') : Aw w w' bc R M G X T :=
  ⟨h.mem.below b, h.wt.below b, h.cfg.below b, (b.block _ (lt_of_block (show wr.heap[R]? = _ from h.row))).trans h.row, seq_below h.bel b⟩
structure A7 (w wr : World) (bc R2 M G : Nat) (T : Int) : Prop where
  mem : MemX wr M G awY T
  wt : WT wr
  cfg : IsCfg wr bc 4 1 1 1 9 0
  row : wr.heap[R2]? = some (.cells #[.bool true, .bool true, .bool true, .bool false] 4 (0, 0))
  bel : Below w.heap.size w wr
theorem A7.below {w wr w' : World} {bc R2 M G : Nat} {T : Int} (h : A7 w wr bc R2 M G T) (b : Below wr.heap.size wr w') : A7 w w' bc R2 M G T :=
  ⟨h.mem.below b, h.wt.below b, h.cfg.below b, (b.block _ (lt_of_block h.row)).trans h.row, seq_below h.bel b⟩
theorem A7.rd {w wr : World} {bc R2 M G : Nat} {T : Int} (h : A7 w wr bc R2 M G T) : wr.cell? ⟨bc, 0, none⟩ = some (.int .i64 4) ∧ wr.cell? ⟨bc, 1, none⟩ = some (.int .i64 1) ∧ wr.cell? ⟨bc, 2, none⟩ = some (.int .i64 1) ∧ wr.cell? ⟨bc, 3, none⟩ = some (.int .i64 1) ∧ wr.cell? ⟨bc, 4, none⟩ = some (.int .i64 9) ∧ wr.cell? ⟨bc, 5, none⟩ = some (.int .i64 0) ∧ wr.cell? ⟨R2, 0, none⟩ = some (.bool true) ∧ wr.cell? ⟨R2, 1, none⟩ = some (.bool true) ∧ wr.cell? ⟨R2, 2, none⟩ = some (.bool true) ∧ wr.cell? ⟨R2, 3, none⟩ = some (.bool false) := by
  obtain ⟨h0, h1, h2, h3, h4, h5⟩ := h.cfg.cells
  refine ⟨h0, h1, h2, h3, h4, h5, ?_, ?_, ?_, ?_⟩ <;> simp [World.cell?, h.row]
theorem Aw.past {w w4 w5 : World} {bc R M G P : Nat} (h : Aw w w4 bc R M G awX 0) (hs : KmI w4 K4 M G P awX (km0 2) 0 29 w5) (hn : (bc ≠ P ∧ bc ≠ M ∧ bc ≠ G) ∧ (R ≠ P ∧ R ≠ M ∧ R ≠ G)) (hw : w.heap.size ≤ P ∧ w.heap.size ≤ M ∧ w.heap.size ≤ G) : Aw w w5 bc R M G awY 29 ∧ awY.length = 28 := by
  obtain ⟨c, is, _⟩ := hs
  refine ⟨⟨is.mem, is.wt, is.ch.at h.cfg (by simp; omega), is.ch.at h.row (by simp; omega), is.ch.below h.bel (by simp; omega) (Nat.le_refl _)⟩, ?_⟩
  have := is.len
  rw [K4_N] at this
  exact this

set_option maxRecDepth 100000 in
set_option maxHeartbeats 16000000 in
theorem awake_any (w : World) (hw : WT w) : Calls Tryz.prog 4 #[] w fun e w' => e = .returned (.bool true) ∧ Below w.heap.size w w' := by
  have c19 := small_any w hw
  have hw0 := hw.lt
  go_enter Tryz.func4, Tryz.ntmps4
  go_upto_region 2 with (go_at_call 11; with_reducible refine c19.mono ?_; rintro r w1 ⟨R, rfl, hR, hRs, b1⟩)
  have hc := cfg_new w1 4 1 1 1 9 0
  have b2 := alloc_below w1 (.cells #[.int .i64 4, .int .i64 1, .int .i64 1, .int .i64 1, .int .i64 9, .int .i64 0] 23)
  have hR1 : R < w1.heap.size := lt_of_block (show w1.heap[R]? = _ from hR)
  have hR2 : IsWords (w1.alloc (.cells #[.int .i64 4, .int .i64 1, .int .i64 1, .int .i64 1, .int .i64 9, .int .i64 0] 23)) R awX := (b2.block _ hR1).trans hR
  have hs2 : (w1.alloc (.cells #[.int .i64 4, .int .i64 1, .int .i64 1, .int .i64 1, .int .i64 9, .int .i64 0] 23)).heap.size = w1.heap.size + 1 := by simp
  replace hw := (hw.below b1).below b2
  replace b1 := seq_below b1 b2
  generalize w1.alloc (.cells #[.int .i64 4, .int .i64 1, .int .i64 1, .int .i64 1, .int .i64 9, .int .i64 0] 23) = w2 at *
  have hbw : w.heap.size ≤ w1.heap.size := by have := hRs; omega
  generalize w1.heap.size = bc at *
  have c20 := aw_of hR2
  go_upto_region 3 with (go_at_call 12; with_reducible refine c20.mono ?_; rintro r w3 ⟨M, G, rfl, hm, hM, hG, b3⟩)
  have is : Aw w w3 bc R M G awX 0 := ⟨hm, hw.below b3, hc.below b3, (b3.block _ (by omega)).trans hR2, seq_below b1 b3⟩
  have hMl := hm.lt
  have hfar := hid1 (show ((bc ≠ M ∧ bc ≠ G) ∧ (R ≠ M ∧ R ≠ G)) ∧ (w.heap.size ≤ M ∧ w.heap.size ≤ G) ∧ (bc < w3.heap.size ∧ R < w3.heap.size ∧ w.heap.size ≤ w3.heap.size) ∧ 0 < w.heap.size by have := b3.size; omega)
  clear c19 c20 hc b2 hR hRs b1 hR1 hR2 hs2 hw hbw hm hM hG b3
  obtain ⟨x0, x1, x2, x3, x4, x5⟩ := is.cfg.cells
  go_upto_region 4 with (go_at_call 13; with_reducible refine (aw_new _).mono ?_; rintro r w4 ⟨P, c, rfl, nb, hk⟩)
  clear x0 x1 x2 x3 x4 x5
  replace is := is.below nb.bel
  have hPn := nb.new
  have c21 := aw_ends is.mem is.wt nb.blk hk (by omega) (by have := hfar.out; omega)
  have HP := hid1 (fun (w5 : World) (hs : KmI w4 K4 M G P awX (km0 2) 0 29 w5) => is.past hs (by have := hfar.out; omega) (by have := hfar.out; omega))
  clear nb hk is hPn hMl hfar hw0
  go_upto_region 6 with (go_at_call 14; with_reducible refine c21.mono ?_; rintro r w5 ⟨rfl, s5⟩)
  obtain ⟨is, hYl⟩ := HP.out _ s5
  clear s5 HP c21
  have c22 := aw_call22 is.wt is.row
  obtain ⟨x0, x1, x2, x3, x4, x5⟩ := is.cfg.cells
  go_upto_region 7 with (go_at_call 6; with_reducible refine c22.mono ?_; rintro r w6 ⟨R2, rfl, h2, hR2, b1⟩)
  clear x0 x1 x2 x3 x4 x5 c22
  replace is := is.below b1
  have i7 : A7 w w6 bc R2 M G 29 := ⟨is.mem, is.wt, is.cfg, h2, is.bel⟩
  clear is b1 h2 hR2
  replace hYl := hid1 hYl
  replace i7 := i7.below (Below.refl _ _).drew
  go_region_held (fun wr => wr.cell? ⟨bc, 0, none⟩ = some (.int .i64 4) ∧ wr.cell? ⟨bc, 1, none⟩ = some (.int .i64 1) ∧ wr.cell? ⟨bc, 2, none⟩ = some (.int .i64 1) ∧ wr.cell? ⟨bc, 3, none⟩ = some (.int .i64 1) ∧ wr.cell? ⟨bc, 4, none⟩ = some (.int .i64 9) ∧ wr.cell? ⟨bc, 5, none⟩ = some (.int .i64 0) ∧ wr.cell? ⟨R2, 0, none⟩ = some (.bool true) ∧ wr.cell? ⟨R2, 1, none⟩ = some (.bool true) ∧ wr.cell? ⟨R2, 2, none⟩ = some (.bool true) ∧ wr.cell? ⟨R2, 3, none⟩ = some (.bool false)) (with_reducible exact i7.rd) (first
    | (go_at_call 16; with_reducible refine (aw_words i7.mem hYl.out).mono ?_; rintro r w7 ⟨R3, rfl, h3, b1⟩; replace i7 := i7.below b1; clear b1; have c24 := aw_call24 h3 hYl.out)
    | (go_at_call 15; with_reducible refine c24.mono ?_; rintro r w8 ⟨g, cp, rfl, hc8, hg8, b1⟩; replace i7 := i7.below b1; clear b1 c24; have c23 := aw_call23 (cp := cp) i7.row hc8 hg8; clear hc8 hg8)
    | (go_at_call 5; with_reducible refine c23.mono ?_; rintro r w9 ⟨rfl, b1⟩; replace i7 := i7.below b1; clear b1 c23))
  go_wp2
  go_ret
  exact ⟨rfl, i7.bel⟩
end Go.Proofs.YtcioomopgdhlmaaGreatDoor
