/- The law's own 'awake': the document's example. -/
import Derived.Test.YtjbjijkkmlehgaaDoorALone
import Derived.Test.YtjbjijkkmlehgaaDoorPFit
namespace Go.Proofs.YtjbjijkkmlehgaaDoor
open Go.RowKit
open Mm (IsMem MS touched Only IsWords zeroMS)
open Hh (WT wordOf bornN okW Hr)

def K1 : Cf := ⟨1, 0, 1, 1, 2, 0, 3⟩
theorem K1_ok : K1.Ok := ⟨by decide, by decide, by decide, by decide, by decide, by decide, by decide, by decide⟩
def memK0 (K : Cf) : MS := zeroMS (memX K.C K.D K.B K.N (K.S - 1))
theorem wordsX {w : World} {M G : Nat} {X : List Nat} {T : Int} {n : Nat} (h : MemX w M G X T) (hn : X.length = n) (hl : n ≤ 65536) : Calls Tryd.prog 13 #[.pointer (some ⟨M, 0, none⟩)] w fun e w' => ∃ R, e = .returned (.slice (some ⟨R, 0, none⟩) n n) ∧ IsWords w' R X ∧ w.heap.size ≤ R ∧ Below w.heap.size w w' := by
  obtain ⟨m, hm, hX, _⟩ := h
  subst hX hn
  exact Mm.words_any hm hl

/-- The Make of the example, step by step. -/
def awM (R : Nat) : Nat → List Nat × Mk
  | 0 => ((memK0 K1).X, mk0 1 0 0 R 3 [])
  | n + 1 => mkX K1 (awM R n).1 (awM R n).2
def awF : Nat → List Nat × Fr
  | 0 => ([1, 0, 0, 65536, 0, 0, 0, 0, 3, 0, 0, 0, 0], ⟨false, false, ⟨0, 0, 0⟩, 0, 0⟩)
  | n + 1 => frX K1 (awF n).1 (awF n).2
set_option maxRecDepth 100000 in
theorem awM_pc (R : Nat) : (awM R 0).2.pc = 0 ∧ (awM R 1).2.pc = 0 ∧ (awM R 2).2.pc = 0 ∧ (awM R 3).2.pc = 1 ∧ (awM R 4).2.pc = 2 ∧ (awM R 5).2.pc = 2 ∧ (awM R 6).2.pc = 2 ∧ (awM R 7).2.pc = 3 ∧ (awM R 8).2.pc = 4 ∧ (awM R 8).2.sl = 0 ∧ (awM R 8).1 = [1, 0, 0, 65536, 0, 0, 0, 0, 1, 0, 0, 0, 0] :=
  ⟨by kernel_rfl, by kernel_rfl, by kernel_rfl, by kernel_rfl, by kernel_rfl, by kernel_rfl, by kernel_rfl, by kernel_rfl, by kernel_rfl, by kernel_rfl, by kernel_rfl⟩
theorem awF_pc : (awF 0).2.pc = 0 ∧ (awF 1).2.pc = 1 ∧ (awF 2).2.pc = 2 ∧ (awF 3).2.pc = 2 ∧ (awF 4).2.pc = 2 ∧ (awF 5).2.pc = 3 ∧ (awF 5).2.back = true ∧ (awF 5).2.gone = false ∧ (awF 5).1 = [1, 0, 0, 131073, 0, 0, 0, 0, 65536, 0, 0, 0, 0] :=
  ⟨by kernel_rfl, by kernel_rfl, by kernel_rfl, by kernel_rfl, by kernel_rfl, by kernel_rfl, by kernel_rfl, by kernel_rfl, by kernel_rfl⟩
theorem awM_key (R k : Nat) (hk : k ≤ 8) : (awM R k).2.pc = [0, 0, 0, 1, 2, 2, 2, 3, 4].getD k 9 := by
  obtain ⟨h0, h1, h2, h3, h4, h5, h6, h7, h8, _⟩ := awM_pc R
  rcases (show k = 0 ∨ k = 1 ∨ k = 2 ∨ k = 3 ∨ k = 4 ∨ k = 5 ∨ k = 6 ∨ k = 7 ∨ k = 8 by omega) with rfl | rfl | rfl | rfl | rfl | rfl | rfl | rfl | rfl
  · exact h0
  · exact h1
  · exact h2
  · exact h3
  · exact h4
  · exact h5
  · exact h6
  · exact h7
  · exact h8
theorem awF_key (k : Nat) (hk : k ≤ 5) : (awF k).2.pc = [0, 1, 2, 2, 2, 3].getD k 9 := by
  obtain ⟨h0, h1, h2, h3, h4, h5, _⟩ := awF_pc
  rcases (show k = 0 ∨ k = 1 ∨ k = 2 ∨ k = 3 ∨ k = 4 ∨ k = 5 by omega) with rfl | rfl | rfl | rfl | rfl | rfl
  · exact h0
  · exact h1
  · exact h2
  · exact h3
  · exact h4
  · exact h5
theorem awM_le (R n : Nat) (hn : n < 8) : (awM R n).2.pc ≤ 3 ∧ ((awM R (n + 1)).2.pc = 4 ↔ n = 7) := by
  have k1 := awM_key R n (by omega)
  have k2 := awM_key R (n + 1) (by omega)
  generalize (awM R n).2.pc = a at *
  generalize (awM R (n + 1)).2.pc = b at *
  rcases (show n = 0 ∨ n = 1 ∨ n = 2 ∨ n = 3 ∨ n = 4 ∨ n = 5 ∨ n = 6 ∨ n = 7 by omega) with rfl | rfl | rfl | rfl | rfl | rfl | rfl | rfl <;> simp at k1 k2 <;> omega
theorem awF_le (n : Nat) (hn : n < 5) : (awF n).2.pc ≤ 2 ∧ ((awF (n + 1)).2.pc = 3 ↔ n = 4) := by
  have k1 := awF_key n (by omega)
  have k2 := awF_key (n + 1) (by omega)
  generalize (awF n).2.pc = a at *
  generalize (awF (n + 1)).2.pc = b at *
  rcases (show n = 0 ∨ n = 1 ∨ n = 2 ∨ n = 3 ∨ n = 4 by omega) with rfl | rfl | rfl | rfl | rfl <;> simp at k1 k2 <;> omega
theorem awM_len (R : Nat) : ∀ n, (awM R n).1.length = 13
  | 0 => by kernel_rfl
  | n + 1 => by show (mkX _ _ _).1.length = 13; rw [mkX_len]; exact awM_len R n
theorem awF_len : ∀ n, (awF n).1.length = 13
  | 0 => by kernel_rfl
  | n + 1 => by show (frX _ _ _).1.length = 13; rw [frX_len]; exact awF_len n
theorem awM_bb (R : Nat) : ∀ n, (awM R n).2.bb = R
  | 0 => rfl
  | n + 1 => by show (mkX _ _ _).2.bb = R; rw [(mkX_body _ _ _).1]; exact awM_bb R n

/-- The example's world while the Make works. -/
structure AwA (w wr : World) (M G P Q R n : Nat) : Prop where
  ds : Ds w wr K1 M G (awM R n).1 n
  ma : MkIn wr K1 P (awM R n).2
  fit : (awM R n).2.Fit K1
  fr : FrIn wr K1 Q ⟨false, false, ⟨0, 0, 0⟩, 0, 0⟩
  ap : P ≠ M ∧ P ≠ G ∧ Q ≠ M ∧ Q ≠ G ∧ P ≠ Q ∧ R ≠ P ∧ R ≠ M ∧ R ≠ G
  hi : w.heap.size + 1 ≤ P ∧ w.heap.size + 1 ≤ Q ∧ w.heap.size + 1 ≤ R
theorem AwA.step {w wr : World} {M G P Q R n : Nat} (h : AwA w wr M G P Q R n) (hn : n < 8) :
    Calls Tryd.prog 20 #[.pointer (some ⟨P, 0, none⟩), .pointer (some ⟨M, 0, none⟩)] wr fun r w' => r = .returned (.bool (decide (n = 7))) ∧ AwA w w' M G P Q R (n + 1) := by
  obtain ⟨p1, p2⟩ := awM_le R n hn
  have hb := awM_bb R n
  have ap := h.ap
  have hi := h.hi
  have hM := h.ds.hM
  have hG := h.ds.hG
  refine (mk_step K1_ok h.ds.mem h.ds.wt (awM_len R n) (by omega) (by omega) h.ma h.fit.ok p1 (by omega) (by rw [hb]; omega)).mono fun r w' ⟨h1, h2, h3, h4, h5⟩ => ⟨?_, ?_⟩
  · rw [h1]
    exact congrArg (fun b => Ending.returned (Value.bool b)) (decide_eq_decide.2 p2)
  · exact ⟨by have := h.ds.chg h5 (by omega) h2 h4; push_cast; exact this, h3, mkX_fit h.fit p1 (fun i => h.ds.mem.fits i), h.fr.chg h5 (by simp; omega), ap, hi⟩
/-- The example's world while the Free works. -/
structure AwB (w wr : World) (M G Q n : Nat) : Prop where
  ds : Ds w wr K1 M G (awF n).1 (9 + n)
  fr : FrIn wr K1 Q (awF n).2
  ok : (awF n).2.Ok K1
  ap : Q ≠ M ∧ Q ≠ G
  hi : w.heap.size + 1 ≤ Q
theorem AwB.step {w wr : World} {M G Q n : Nat} (h : AwB w wr M G Q n) (hn : n < 5) :
    Calls Tryd.prog 26 #[.pointer (some ⟨Q, 0, none⟩), .pointer (some ⟨M, 0, none⟩)] wr fun r w' => r = .returned (.bool (decide (n = 4))) ∧ AwB w w' M G Q (n + 1) := by
  obtain ⟨p1, p2⟩ := awF_le n hn
  have ap := h.ap
  have hi := h.hi
  have hM := h.ds.hM
  have hG := h.ds.hG
  refine (fr_step K1_ok h.ds.mem h.ds.wt (awF_len n) (by omega) (by omega) h.fr h.ok p1 (by omega)).mono fun r w' ⟨h1, h2, h3, h4, h5⟩ => ⟨?_, ?_⟩
  · rw [h1]
    exact congrArg (fun b => Ending.returned (Value.bool b)) (decide_eq_decide.2 p2)
  · exact ⟨by have := h.ds.chg h5 (by omega) h2 h4; push_cast; rw [← Int.add_assoc]; exact this, h3, frX_ok h.ok p1 (fun i => h.ds.mem.fits i), ap, hi⟩
theorem AwB.below {w wr w1 : World} {M G Q n : Nat} (h : AwB w wr M G Q n) (b : Below wr.heap.size wr w1) : AwB w w1 M G Q n := ⟨h.ds.below b, h.fr.below b, h.ok, h.ap, h.hi⟩
theorem AwB.held {w wr : World} {M G Q : Nat} (h : AwB w wr M G Q 5) : (wr.cell? ⟨w.heap.size, 0, none⟩ = some (.int .i64 1) ∧ wr.cell? ⟨w.heap.size, 1, none⟩ = some (.int .i64 0) ∧ wr.cell? ⟨w.heap.size, 2, none⟩ = some (.int .i64 1) ∧ wr.cell? ⟨w.heap.size, 3, none⟩ = some (.int .i64 1) ∧ wr.cell? ⟨w.heap.size, 4, none⟩ = some (.int .i64 2) ∧ wr.cell? ⟨w.heap.size, 5, none⟩ = some (.int .i64 0)) ∧ wr.cell? ⟨Q, 0, none⟩ = some (.bool true) ∧ wr.cell? ⟨Q, 1, none⟩ = some (.bool false) := by
  obtain ⟨_, _, _, _, _, _, h6, h7, _⟩ := awF_pc
  have hc := h.fr.cells
  rw [h6, h7] at hc
  exact ⟨h.ds.cfg.cells, hc⟩
theorem AwB.words {w wr : World} {M G Q : Nat} (h : AwB w wr M G Q 5) : Calls Tryd.prog 13 #[.pointer (some ⟨M, 0, none⟩)] wr fun e w' => ∃ R, e = .returned (.slice (some ⟨R, 0, none⟩) 13 13) ∧ IsWords w' R [1, 0, 0, 131073, 0, 0, 0, 0, 65536, 0, 0, 0, 0] ∧ AwB w w' M G Q 5 := by
  obtain ⟨_, _, _, _, _, _, _, _, h8⟩ := awF_pc
  have hm := h.ds.mem
  rw [h8] at hm
  exact (wordsX (n := 13) hm rfl (by omega)).mono fun e w' ⟨R, h1, h2, h3, h4⟩ => ⟨R, h1, h2, h.below h4⟩

/-- Behind the Make's end. -/
theorem AwA.done {w wr : World} {M G P Q R : Nat} (h : AwA w wr M G P Q R 8) : Ds w wr K1 M G [1, 0, 0, 65536, 0, 0, 0, 0, 1, 0, 0, 0, 0] 8 ∧ wr.cell? ⟨P, 0, none⟩ = some (.int .i64 0) ∧ FrIn wr K1 Q ⟨false, false, ⟨0, 0, 0⟩, 0, 0⟩ := by
  obtain ⟨_, _, _, _, _, _, _, _, _, h9, h10⟩ := awM_pc R
  have hd := h.ds
  rw [h10] at hd
  have hc := h.ma.cells.1
  rw [h9] at hc
  exact ⟨hd, hc, h.fr⟩
theorem aw_store {w wr : World} {M G Q : Nat} (hd : Ds w wr K1 M G [1, 0, 0, 65536, 0, 0, 0, 0, 1, 0, 0, 0, 0] 8) (hf : FrIn wr K1 Q ⟨false, false, ⟨0, 0, 0⟩, 0, 0⟩) (ap : Q ≠ M ∧ Q ≠ G) (hi : w.heap.size + 1 ≤ Q) :
    Calls Tryd.prog 24 #[.pointer (some ⟨M, 0, none⟩), .int .i64 8, .int .u64 3] wr fun e w' => e = .returned (.bool true) ∧ AwB w w' M G Q 0 := by
  have hM := hd.hM
  have hG := hd.hG
  refine (storeX (i := 8) (v := 3) hd.mem (by decide) (by decide) (by omega)).mono fun e w' ⟨h1, h2, h3⟩ => ⟨h1, ?_⟩
  have ch : Chg [Q, M, G] wr w' := Chg.of_only h3 (by simp) (by simp)
  have ch2 : Chg [M, G] wr w' := Chg.of_only h3 (by simp) (by simp)
  exact ⟨hd.chg ch hi h2 (WT.chg hd.wt ch2 (by simp; omega)), hf.chg ch2 (by simp; omega), ⟨⟨by show 0 ≤ 3; omega, by show 0 < 18446744073709551616; omega, by decide⟩, by show 0 ≤ 3; omega, fun _ => by show 0 ≤ 2; omega, by show 0 < 18446744073709551616; omega⟩, ap, hi⟩

set_option maxRecDepth 100000 in
set_option maxHeartbeats 8000000 in
theorem awake_any (w : World) (hw : WT w) : Calls Tryd.prog 10 #[] w fun e w' => e = .returned (.bool true) ∧ Below w.heap.size w w' := by
  have c9 : ∀ w, Calls Tryd.prog 9 #[.agg (cs 1 0 1 1 2 0)] w fun e w' => ∃ M G, e = .returned (.pointer (some ⟨M, 0, none⟩)) ∧ IsMem w' M G (memK0 K1) ∧ w.heap.size ≤ M ∧ w.heap.size ≤ G ∧ Below w.heap.size w w' :=
    memory_yes K1_ok.r K1_ok.b K1_ok.b8 K1_ok.c8 K1_ok.d16 K1_ok.s64 K1_ok.s1 K1_ok.d1
  have c19 : ∀ w, Calls Tryd.prog 19 #[.agg (cs 1 0 1 1 2 0), .int .i64 1, .int .i64 0, .int .u64 0, .slice none 0 0] w fun e w' => ∃ P R c, e = .returned (.pointer (some ⟨P, 0, none⟩)) ∧ NewBlk w w' P c 60 ∧ MkAt c K1 (mk0 1 0 0 R 3 []) ∧ IsWords w' R (fillW 3 []) ∧ w.heap.size ≤ R ∧ R ≠ P := fun w =>
    newMake_yes (Y := []) (n := 0) (cap := 0) K1_ok 1 0 0 (by decide) (fun i hi => by simp at hi) rfl (by omega)
  have c21 : ∀ w, Calls Tryd.prog 21 #[.agg (cs 1 0 1 1 2 0), .int .i64 0] w fun e w' => ∃ P c, e = .returned (.pointer (some ⟨P, 0, none⟩)) ∧ NewBlk w w' P c 72 ∧ FrAt c K1 ⟨false, false, ⟨0, 0, 0⟩, 0, 0⟩ := fun w => newFree_yes K1_ok (s := 0) (by decide) w
  have c39 : ∀ w, Calls Tryd.prog 39 #[.agg (cs 1 0 1 1 2 0), .int .i64 0] w fun e w' => e = .returned (.int .i64 8) ∧ Below w.heap.size w w' := fun w => header_at K1_ok (s := 0) (by decide) rfl w
  have c25 : ∀ w, Calls Tryd.prog 25 #[.agg #[.int .i64 3, .int .i64 0, .bool false, .int .i64 0, .int .i64 0, .int .i64 0]] w fun e w' => e = .returned (.int .u64 3) ∧ Below w.heap.size w w' := Hh.rpack_any 3 0 false 0 0 0 (by decide) (by decide) (by decide) (by decide) (by decide)
  have c25b : ∀ w, Calls Tryd.prog 25 #[.agg #[.int .i64 0, .int .i64 0, .bool false, .int .i64 0, .int .i64 1, .int .i64 0]] w fun e w' => e = .returned (.int .u64 65536) ∧ Below w.heap.size w w' := Hh.rpack_any 0 0 false 0 1 0 (by decide) (by decide) (by decide) (by decide) (by decide)
  have bel := alloc_below w (.cells #[.int .i64 1, .int .i64 0, .int .i64 1, .int .i64 1, .int .i64 2, .int .i64 0] 23)
  have hh := cfg_new w 1 0 1 1 2 0
  replace hw := hw.below bel
  go_enter Tryd.func10, Tryd.ntmps10
  go_upto_region 2 with fail
  generalize w.alloc (.cells #[.int .i64 1, .int .i64 0, .int .i64 1, .int .i64 1, .int .i64 2, .int .i64 0] 23) = w0 at *
  obtain ⟨l0, l1, l2, l3, l4, l5⟩ := hh.cells
  go_upto_region 3 with (first
    | (go_at_call 9; refine (c9 _).mono ?_; rintro e w1 ⟨M, G, rfl, hm, hM, hG, hb⟩))
  have hlt := hh.lt
  have ds : Ds w w1 K1 M G (awM 0 0).1 0 := ⟨⟨_, hm, rfl, rfl⟩, hh.below hb, seq_below bel hb, hw.below hb, by omega, by omega⟩
  clear l0 l1 l2 l3 l4 l5 hb hlt c9 hh hw bel hm hM hG
  replace ds := ds.drew
  have hcf : ∀ wr, Ds w wr K1 M G (awM 0 0).1 0 → wr.cell? ⟨w.heap.size, 0, none⟩ = some (.int .i64 1) ∧ wr.cell? ⟨w.heap.size, 1, none⟩ = some (.int .i64 0) ∧ wr.cell? ⟨w.heap.size, 2, none⟩ = some (.int .i64 1) ∧ wr.cell? ⟨w.heap.size, 3, none⟩ = some (.int .i64 1) ∧ wr.cell? ⟨w.heap.size, 4, none⟩ = some (.int .i64 2) ∧ wr.cell? ⟨w.heap.size, 5, none⟩ = some (.int .i64 0) := fun wr x => x.cfg.cells
  go_region_held (fun wr => wr.cell? ⟨w.heap.size, 0, none⟩ = some (.int .i64 1) ∧ wr.cell? ⟨w.heap.size, 1, none⟩ = some (.int .i64 0) ∧ wr.cell? ⟨w.heap.size, 2, none⟩ = some (.int .i64 1) ∧ wr.cell? ⟨w.heap.size, 3, none⟩ = some (.int .i64 1) ∧ wr.cell? ⟨w.heap.size, 4, none⟩ = some (.int .i64 2) ∧ wr.cell? ⟨w.heap.size, 5, none⟩ = some (.int .i64 0)) (with_reducible exact hcf _ ds) (first
    | (go_at_call 19; with_reducible refine (c19 _).mono ?_; rintro e w3 ⟨P, R, cP, rfl, nP, aP, rP, hR, hRP⟩; have hs0 := ds.lt; have hMG := ds.mem.lt; replace ds := ds.below nP.bel)
    | (go_at_call 21; with_reducible refine (c21 _).mono ?_; rintro e w4 ⟨Q, cQ, rfl, nQ, aQ⟩; replace ds := ds.below nQ.bel))
  have nPn := nP.new
  have nQn := nQ.new
  have hsz := nP.bel.size
  have hPl := lt_of_block nP.blk
  have hRl := lt_of_block (show w3.heap[R]? = _ from rP)
  have mk : MkIn w3 K1 P (mk0 1 0 0 R 3 []) := ⟨cP, nP.blk, aP, rP⟩
  have aw : AwA w w4 M G P Q R 0 := ⟨ds, mk.below nQ.bel, mk0_fit K1_ok (.inl rfl) (by decide) (by decide) (fun i => by simp), ⟨cQ, nQ.blk, aQ⟩, by omega, by omega⟩
  clear ds mk nP nQ aP aQ rP hR hRP hs0 nPn nQn hsz hPl hRl c19 c21 hcf
  go_wp2
  go_loopw [5] (fun i wr => ∃ n : Nat, n ≤ 7 ∧ i = .int .i64 n ∧ AwA w wr M G P Q R n) (fun i _ => 8 - (intOf i).toNat)
  case atStart => exact ⟨0, by omega, rfl, aw⟩
  case round =>
    clear aw
    obtain ⟨n, hn, rfl, aw⟩ := hrel
    have c20 := aw.step (by omega)
    by_cases h7 : n = 7
    · subst h7
      go_upto_region 9 with (go_at_call 20; refine c20.mono ?_; rintro e w5 ⟨rfl, aw⟩)
      clear c20
      obtain ⟨hd, hsl, hf⟩ := aw.done
      have apQ : Q ≠ M ∧ Q ≠ G := by have := aw.ap; omega
      have hiQ : w.heap.size + 1 ≤ Q := aw.hi.2.1
      clear aw
      obtain ⟨l0, l1, l2, l3, l4, l5⟩ := hd.cfg.cells
      simp only [K1] at l0 l1 l2 l3 l4 l5
      go_upto_region 11 with (first
        | (go_at_call 39; refine (c39 _).mono ?_; rintro e w6 ⟨rfl, b⟩; replace hd := hd.below b; replace hf := hf.below b; clear b)
        | (go_at_call 25; refine (c25 _).mono ?_; rintro e w7 ⟨rfl, b⟩; replace hd := hd.below b; replace hf := hf.below b; clear b)
        | (go_at_call 24; refine (aw_store hd hf apQ hiQ).mono ?_; rintro e w8 ⟨rfl, awb⟩))
      clear l0 l1 l2 l3 l4 l5 hd hf apQ hiQ hsl c25
      go_wp2
      go_loopw [6] (fun i wr => ∃ n : Nat, n ≤ 4 ∧ i = .int .i64 n ∧ AwB w wr M G Q n) (fun i _ => 8 - (intOf i).toNat)
      case atStart => exact ⟨0, by omega, rfl, awb⟩
      case round =>
        clear awb
        obtain ⟨n, hn, rfl, awb⟩ := hrel
        have c26 := awb.step (by omega)
        by_cases h4 : n = 4
        · subst h4
          go_upto_region 14 with (go_at_call 26; refine c26.mono ?_; rintro e w9 ⟨rfl, awb⟩)
          clear c26
          replace awb := awb.below (Below.refl _ _).drew
          have hS0 := awb.held
          refine wp_region_held_drew (S := fun wr => (wr.cell? ⟨w.heap.size, 0, none⟩ = some (.int .i64 1) ∧ wr.cell? ⟨w.heap.size, 1, none⟩ = some (.int .i64 0) ∧ wr.cell? ⟨w.heap.size, 2, none⟩ = some (.int .i64 1) ∧ wr.cell? ⟨w.heap.size, 3, none⟩ = some (.int .i64 1) ∧ wr.cell? ⟨w.heap.size, 4, none⟩ = some (.int .i64 2) ∧ wr.cell? ⟨w.heap.size, 5, none⟩ = some (.int .i64 0)) ∧ wr.cell? ⟨Q, 0, none⟩ = some (.bool true) ∧ wr.cell? ⟨Q, 1, none⟩ = some (.bool false)) (by kernel_rfl) hS0 (fun hS1 => ?_)
          clear hS0
          refine wpAnyH_take (i := 0) (oi := { dst := some 58, op := Go.Op.move (Go.Operand.tmp 4), type := 39, pos := "law.go:30", after := #[], guard := none }) (v := .pointer (some ⟨Q, 0, none⟩)) rfl (by kernel_rfl) (by kernel_rfl) (by kernel_rfl) (fun _ _ _ h => h) (Or.inl ⟨by rfl, fun w hSw => by (try dsimp only at hSw); go_simp⟩) hS1 ?_
          simp only [Act.put, List.setIfInBounds_toArray, List.set_cons_zero, List.set_cons_succ]
          refine wpAnyH_take (i := 1) (oi := { dst := some 59, op := Go.Op.nilCheck (Go.Operand.tmp 58), type := 0, pos := "law.go:30", after := #[{ on := 0, ground := Go.Ground.data }], guard := none }) (v := .pointer (some ⟨Q, 0, none⟩)) rfl (by kernel_rfl) (by kernel_rfl) (by kernel_rfl) (fun _ _ _ h => h) (Or.inl ⟨by rfl, fun w hSw => by (try dsimp only at hSw); go_simp⟩) hS1 ?_
          simp only [Act.put, List.setIfInBounds_toArray, List.set_cons_zero, List.set_cons_succ]
          refine wpAnyH_take (i := 2) (oi := { dst := some 60, op := Go.Op.fieldAddr 72 (Go.Operand.tmp 59) 0, type := 0, pos := "law.go:30", after := #[{ on := 1, ground := Go.Ground.data }], guard := none }) (v := .pointer (some ⟨Q, 0, none⟩)) rfl (by kernel_rfl) (by kernel_rfl) (by kernel_rfl) (fun _ _ _ h => h) (Or.inl ⟨by rfl, fun w hSw => by (try dsimp only at hSw); go_simp⟩) hS1 ?_
          simp only [Act.put, List.setIfInBounds_toArray, List.set_cons_zero, List.set_cons_succ]
          refine wpAnyH_take (i := 3) (oi := { dst := some 61, op := Go.Op.load 4 (Go.Operand.tmp 60), type := 4, pos := "law.go:30", after := #[{ on := 2, ground := Go.Ground.data }], guard := none }) (v := .bool true) rfl (by kernel_rfl) (by kernel_rfl) (by kernel_rfl) (fun _ _ _ h => h) (Or.inl ⟨by rfl, fun w hSw => by (try dsimp only at hSw); go_simp⟩) hS1 ?_
          simp only [Act.put, List.setIfInBounds_toArray, List.set_cons_zero, List.set_cons_succ]
          refine wpAnyH_take (i := 4) (oi := { dst := some 62, op := Go.Op.move (Go.Operand.tmp 61), type := 4, pos := "law.go:30", after := #[{ on := 3, ground := Go.Ground.data }], guard := none }) (v := .bool true) rfl (by kernel_rfl) (by kernel_rfl) (by kernel_rfl) (fun _ _ _ h => h) (Or.inl ⟨by rfl, fun w hSw => by (try dsimp only at hSw); go_simp⟩) hS1 ?_
          simp only [Act.put, List.setIfInBounds_toArray, List.set_cons_zero, List.set_cons_succ]
          refine wpAnyH_take (i := 5) (oi := { dst := some 63, op := Go.Op.move (Go.Operand.tmp 4), type := 39, pos := "law.go:30", after := #[{ on := 4, ground := Go.Ground.guard }], guard := some (4, true) }) (v := .pointer (some ⟨Q, 0, none⟩)) rfl (by kernel_rfl) (by kernel_rfl) (by kernel_rfl) (fun _ _ _ h => h) (Or.inl ⟨by rfl, fun w hSw => by (try dsimp only at hSw); go_simp⟩) hS1 ?_
          simp only [Act.put, List.setIfInBounds_toArray, List.set_cons_zero, List.set_cons_succ]
          refine wpAnyH_take (i := 6) (oi := { dst := some 64, op := Go.Op.nilCheck (Go.Operand.tmp 63), type := 0, pos := "law.go:30", after := #[{ on := 5, ground := Go.Ground.data }, { on := 4, ground := Go.Ground.guard }], guard := some (4, true) }) (v := .pointer (some ⟨Q, 0, none⟩)) rfl (by kernel_rfl) (by kernel_rfl) (by kernel_rfl) (fun _ _ _ h => h) (Or.inl ⟨by rfl, fun w hSw => by (try dsimp only at hSw); go_simp⟩) hS1 ?_
          simp only [Act.put, List.setIfInBounds_toArray, List.set_cons_zero, List.set_cons_succ]
          refine wpAnyH_take (i := 7) (oi := { dst := some 65, op := Go.Op.fieldAddr 72 (Go.Operand.tmp 64) 1, type := 0, pos := "law.go:30", after := #[{ on := 6, ground := Go.Ground.data }, { on := 4, ground := Go.Ground.guard }], guard := some (4, true) }) (v := .pointer (some ⟨Q, 1, none⟩)) rfl (by kernel_rfl) (by kernel_rfl) (by kernel_rfl) (fun _ _ _ h => h) (Or.inl ⟨by rfl, fun w hSw => by (try dsimp only at hSw); go_simp⟩) hS1 ?_
          simp only [Act.put, List.setIfInBounds_toArray, List.set_cons_zero, List.set_cons_succ]
          refine wpAnyH_take (i := 8) (oi := { dst := some 66, op := Go.Op.load 4 (Go.Operand.tmp 65), type := 4, pos := "law.go:30", after := #[{ on := 7, ground := Go.Ground.data }, { on := 4, ground := Go.Ground.guard }], guard := some (4, true) }) (v := .bool false) rfl (by kernel_rfl) (by kernel_rfl) (by kernel_rfl) (fun _ _ _ h => h) (Or.inl ⟨by rfl, fun w hSw => by (try dsimp only at hSw); go_simp⟩) hS1 ?_
          simp only [Act.put, List.setIfInBounds_toArray, List.set_cons_zero, List.set_cons_succ]
          refine wpAnyH_take (i := 9) (oi := { dst := some 67, op := Go.Op.unOp Go.UnOp.not 4 (Go.Operand.tmp 66), type := 4, pos := "law.go:30", after := #[{ on := 8, ground := Go.Ground.data }, { on := 4, ground := Go.Ground.guard }], guard := some (4, true) }) (v := .bool true) rfl (by kernel_rfl) (by kernel_rfl) (by kernel_rfl) (fun _ _ _ h => h) (Or.inl ⟨by rfl, fun w hSw => by (try dsimp only at hSw); go_simp⟩) hS1 ?_
          simp only [Act.put, List.setIfInBounds_toArray, List.set_cons_zero, List.set_cons_succ]
          refine wpAnyH_take (i := 10) (oi := { dst := some 68, op := Go.Op.pick (Go.Operand.tmp 62) (Go.Operand.tmp 67) (Go.Operand.const (Go.Value.bool false)), type := 4, pos := "law.go:30", after := #[{ on := 4, ground := Go.Ground.data }, { on := 9, ground := Go.Ground.data }], guard := none }) (v := .bool true) rfl (by kernel_rfl) (by kernel_rfl) (by kernel_rfl) (fun _ _ _ h => h) (Or.inl ⟨by rfl, fun w hSw => by (try dsimp only at hSw); go_simp⟩) hS1 ?_
          simp only [Act.put, List.setIfInBounds_toArray, List.set_cons_zero, List.set_cons_succ]
          refine wpAnyH_take (i := 11) (oi := { dst := some 69, op := Go.Op.move (Go.Operand.tmp 68), type := 4, pos := "law.go:30", after := #[{ on := 10, ground := Go.Ground.data }, { on := 4, ground := Go.Ground.chain }], guard := none }) (v := .bool true) rfl (by kernel_rfl) (by kernel_rfl) (by kernel_rfl) (fun _ _ _ h => h) (Or.inl ⟨by rfl, fun w hSw => by (try dsimp only at hSw); go_simp⟩) hS1 ?_
          simp only [Act.put, List.setIfInBounds_toArray, List.set_cons_zero, List.set_cons_succ]
          refine wpAnyH_take (i := 12) (oi := { dst := some 70, op := Go.Op.move (Go.Operand.tmp 2), type := 28, pos := "law.go:30", after := #[{ on := 11, ground := Go.Ground.guard }], guard := some (11, true) }) (v := .pointer (some ⟨M, 0, none⟩)) rfl (by kernel_rfl) (by kernel_rfl) (by kernel_rfl) (fun _ _ _ h => h) (Or.inl ⟨by rfl, fun w hSw => by (try dsimp only at hSw); go_simp⟩) hS1 ?_
          simp only [Act.put, List.setIfInBounds_toArray, List.set_cons_zero, List.set_cons_succ]
          refine wpAnyH_take (i := 14) (oi := { dst := some 72, op := Go.Op.load 23 (Go.Operand.tmp 1), type := 23, pos := "law.go:30", after := #[{ on := 11, ground := Go.Ground.guard }], guard := some (11, true) }) (v := .agg #[.int .i64 1, .int .i64 0, .int .i64 1, .int .i64 1, .int .i64 2, .int .i64 0]) rfl (by kernel_rfl) (by kernel_rfl) (by kernel_rfl) (fun _ _ _ h => h) (Or.inl ⟨by rfl, fun w hSw => by (try dsimp only at hSw); go_simp⟩) hS1 ?_
          simp only [Act.put, List.setIfInBounds_toArray, List.set_cons_zero, List.set_cons_succ]
          refine wpAnyH_take (i := 18) (oi := { dst := some 76, op := Go.Op.build 48 #[(4, Go.Operand.const (Go.Value.int Go.IntKind.i64 1))], type := 48, pos := "law.go:30", after := #[{ on := 11, ground := Go.Ground.guard }], guard := some (11, true) }) (v := .agg #[.int .i64 0, .int .i64 0, .bool false, .int .i64 0, .int .i64 1, .int .i64 0]) rfl (by kernel_rfl) (by kernel_rfl) (by kernel_rfl) (fun _ _ _ h => h) (Or.inl ⟨by rfl, fun w hSw => by (try dsimp only at hSw); go_simp⟩) hS1 ?_
          simp only [Act.put, List.setIfInBounds_toArray, List.set_cons_zero, List.set_cons_succ]
          refine wpAnyH_ready (rs := [13]) (by kernel_rfl) (by simp) (AllReadyH.cons (o := { dst := some 71, op := Go.Op.call { callee := Go.Callee.value (Go.Operand.func 13), args := #[Go.Operand.tmp 70], argTypes := #[28] }, type := 44, pos := "law.go:30", after := #[{ on := 12, ground := Go.Ground.data }, { on := 11, ground := Go.Ground.chain }, { on := 11, ground := Go.Ground.guard }], guard := some (11, true) }) rfl (fun K hK => ?_) AllReadyH.nil)
          go_simp
          go_at_call 13
          with_reducible refine awb.words.mono ?_
          rintro e w8 ⟨R8, rfl, hR8, awb⟩
          (try simp only [])
          refine hK.out _ _ awb.held (fun hS1 => ?_)
          (try simp only [Act.put, List.setIfInBounds_toArray, List.set_cons_zero, List.set_cons_succ])
          clear hK K
          refine wpAnyH_ready (rs := [15]) (by kernel_rfl) (by simp) (AllReadyH.cons (o := { dst := some 73, op := Go.Op.call { callee := Go.Callee.value (Go.Operand.func 39), args := #[Go.Operand.tmp 72, Go.Operand.const (Go.Value.int Go.IntKind.i64 0)], argTypes := #[23, 3] }, type := 3, pos := "law.go:30", after := #[{ on := 14, ground := Go.Ground.data }, { on := 13, ground := Go.Ground.chain }, { on := 11, ground := Go.Ground.guard }], guard := some (11, true) }) rfl (fun K hK => ?_) AllReadyH.nil)
          go_simp
          go_at_call 39
          with_reducible refine (c39 _).mono ?_
          rintro e w9 ⟨rfl, b⟩
          (try simp only [])
          replace awb := awb.below b
          have hR9 := words_below hR8 b
          have r0 : w9.cell? ⟨R8, 8, none⟩ = some (.int .u64 65536) := Mm.words_at hR9 8 (by decide)
          refine hK.out _ _ awb.held (fun hS1 => ?_)
          (try simp only [Act.put, List.setIfInBounds_toArray, List.set_cons_zero, List.set_cons_succ])
          clear hK K hR8 b
          refine wpAnyH_take (i := 16) (oi := { dst := some 74, op := Go.Op.indexAddr 44 (Go.Operand.tmp 71) (Go.Operand.tmp 73), type := 0, pos := "law.go:30", after := #[{ on := 13, ground := Go.Ground.data }, { on := 15, ground := Go.Ground.data }, { on := 11, ground := Go.Ground.guard }], guard := some (11, true) }) (v := .pointer (some ⟨R8, 8, none⟩)) rfl (by kernel_rfl) (by kernel_rfl) (by kernel_rfl) (fun _ _ _ h => h) (Or.inl ⟨by rfl, fun w hSw => by (try dsimp only at hSw); go_simp⟩) hS1 ?_
          simp only [Act.put, List.setIfInBounds_toArray, List.set_cons_zero, List.set_cons_succ]
          refine wpAnyH_ready (rs := [17, 19]) (by kernel_rfl) (by simp) (AllReadyH.cons (o := { dst := some 75, op := Go.Op.load 35 (Go.Operand.tmp 74), type := 35, pos := "law.go:30", after := #[{ on := 16, ground := Go.Ground.data }, { on := 11, ground := Go.Ground.guard }], guard := some (11, true) }) rfl (fun K hK => ?_) (AllReadyH.cons (o := { dst := some 77, op := Go.Op.call { callee := Go.Callee.value (Go.Operand.func 25), args := #[Go.Operand.tmp 76], argTypes := #[48] }, type := 35, pos := "law.go:30", after := #[{ on := 18, ground := Go.Ground.data }, { on := 15, ground := Go.Ground.chain }, { on := 11, ground := Go.Ground.guard }], guard := some (11, true) }) rfl (fun K hK => ?_) AllReadyH.nil))
          · go_simp
            refine hK.out _ _ awb.held (fun hS1 => ?_)
            (try simp only [Act.put, List.setIfInBounds_toArray, List.set_cons_zero, List.set_cons_succ])
            clear hK K r0
            refine wpAnyH_ready (rs := [19]) (by kernel_rfl) (by simp) (AllReadyH.cons (o := { dst := some 77, op := Go.Op.call { callee := Go.Callee.value (Go.Operand.func 25), args := #[Go.Operand.tmp 76], argTypes := #[48] }, type := 35, pos := "law.go:30", after := #[{ on := 18, ground := Go.Ground.data }, { on := 15, ground := Go.Ground.chain }, { on := 11, ground := Go.Ground.guard }], guard := some (11, true) }) rfl (fun K hK => ?_) AllReadyH.nil)
            go_simp
            go_at_call 25
            with_reducible refine (c25b _).mono ?_
            rintro e w10 ⟨rfl, b⟩
            (try simp only [])
            replace awb := awb.below b
            refine hK.out _ _ awb.held (fun hS1 => ?_)
            (try simp only [Act.put, List.setIfInBounds_toArray, List.set_cons_zero, List.set_cons_succ])
            clear hK K
            refine wpAnyH_take (i := 20) (oi := { dst := some 78, op := Go.Op.binOp Go.BinOp.eql 35 (Go.Operand.tmp 75) (Go.Operand.tmp 77) 35, type := 4, pos := "law.go:30", after := #[{ on := 17, ground := Go.Ground.data }, { on := 19, ground := Go.Ground.data }, { on := 11, ground := Go.Ground.guard }], guard := some (11, true) }) (v := .bool true) rfl (by kernel_rfl) (by kernel_rfl) (by kernel_rfl) (fun _ _ _ h => h) (Or.inl ⟨by rfl, fun w hSw => by (try dsimp only at hSw); go_simp⟩) hS1 ?_
            simp only [Act.put, List.setIfInBounds_toArray, List.set_cons_zero, List.set_cons_succ]
            refine wpAnyH_take (i := 21) (oi := { dst := some 79, op := Go.Op.pick (Go.Operand.tmp 69) (Go.Operand.tmp 78) (Go.Operand.const (Go.Value.bool false)), type := 4, pos := "law.go:30", after := #[{ on := 11, ground := Go.Ground.data }, { on := 20, ground := Go.Ground.data }], guard := none }) (v := .bool true) rfl (by kernel_rfl) (by kernel_rfl) (by kernel_rfl) (fun _ _ _ h => h) (Or.inl ⟨by rfl, fun w hSw => by (try dsimp only at hSw); go_simp⟩) hS1 ?_
            simp only [Act.put, List.setIfInBounds_toArray, List.set_cons_zero, List.set_cons_succ]
            refine wpAnyH_take (i := 22) (oi := { dst := some 0, op := Go.Op.assign (Go.Operand.tmp 79), type := 4, pos := "law.go:30", after := #[{ on := 21, ground := Go.Ground.data }, { on := 19, ground := Go.Ground.chain }, { on := 0, ground := Go.Ground.phase }, { on := 1, ground := Go.Ground.phase }, { on := 2, ground := Go.Ground.phase }, { on := 3, ground := Go.Ground.phase }, { on := 4, ground := Go.Ground.phase }, { on := 5, ground := Go.Ground.phase }, { on := 6, ground := Go.Ground.phase }, { on := 7, ground := Go.Ground.phase }, { on := 8, ground := Go.Ground.phase }, { on := 9, ground := Go.Ground.phase }, { on := 10, ground := Go.Ground.phase }, { on := 11, ground := Go.Ground.phase }, { on := 12, ground := Go.Ground.phase }, { on := 13, ground := Go.Ground.phase }, { on := 14, ground := Go.Ground.phase }, { on := 15, ground := Go.Ground.phase }, { on := 16, ground := Go.Ground.phase }, { on := 17, ground := Go.Ground.phase }, { on := 18, ground := Go.Ground.phase }, { on := 19, ground := Go.Ground.phase }, { on := 20, ground := Go.Ground.phase }, { on := 21, ground := Go.Ground.phase }], guard := none }) (v := .bool true) rfl (by kernel_rfl) (by kernel_rfl) (by kernel_rfl) (fun _ _ _ h => h) (Or.inl ⟨by rfl, fun w hSw => by (try dsimp only at hSw); go_simp⟩) hS1 ?_
            simp only [Act.put, List.setIfInBounds_toArray, List.set_cons_zero]
            refine wpAnyH_done (by kernel_rfl) ?_ _
            clear hS1
            go_wp2
            go_ret
            exact ⟨rfl, awb.ds.bel⟩
          · go_simp
            go_at_call 25
            with_reducible refine (c25b _).mono ?_
            rintro e w10 ⟨rfl, b⟩
            (try simp only [])
            replace awb := awb.below b
            have hR10 := words_below hR9 b
            clear r0
            have r0 : w10.cell? ⟨R8, 8, none⟩ = some (.int .u64 65536) := Mm.words_at hR10 8 (by decide)
            refine hK.out _ _ awb.held (fun hS1 => ?_)
            (try simp only [Act.put, List.setIfInBounds_toArray, List.set_cons_zero, List.set_cons_succ])
            clear hK K
            refine wpAnyH_ready (rs := [17]) (by kernel_rfl) (by simp) (AllReadyH.cons (o := { dst := some 75, op := Go.Op.load 35 (Go.Operand.tmp 74), type := 35, pos := "law.go:30", after := #[{ on := 16, ground := Go.Ground.data }, { on := 11, ground := Go.Ground.guard }], guard := some (11, true) }) rfl (fun K hK => ?_) AllReadyH.nil)
            go_simp
            refine hK.out _ _ awb.held (fun hS1 => ?_)
            (try simp only [Act.put, List.setIfInBounds_toArray, List.set_cons_zero, List.set_cons_succ])
            clear hK K r0
            refine wpAnyH_take (i := 20) (oi := { dst := some 78, op := Go.Op.binOp Go.BinOp.eql 35 (Go.Operand.tmp 75) (Go.Operand.tmp 77) 35, type := 4, pos := "law.go:30", after := #[{ on := 17, ground := Go.Ground.data }, { on := 19, ground := Go.Ground.data }, { on := 11, ground := Go.Ground.guard }], guard := some (11, true) }) (v := .bool true) rfl (by kernel_rfl) (by kernel_rfl) (by kernel_rfl) (fun _ _ _ h => h) (Or.inl ⟨by rfl, fun w hSw => by (try dsimp only at hSw); go_simp⟩) hS1 ?_
            simp only [Act.put, List.setIfInBounds_toArray, List.set_cons_zero, List.set_cons_succ]
            refine wpAnyH_take (i := 21) (oi := { dst := some 79, op := Go.Op.pick (Go.Operand.tmp 69) (Go.Operand.tmp 78) (Go.Operand.const (Go.Value.bool false)), type := 4, pos := "law.go:30", after := #[{ on := 11, ground := Go.Ground.data }, { on := 20, ground := Go.Ground.data }], guard := none }) (v := .bool true) rfl (by kernel_rfl) (by kernel_rfl) (by kernel_rfl) (fun _ _ _ h => h) (Or.inl ⟨by rfl, fun w hSw => by (try dsimp only at hSw); go_simp⟩) hS1 ?_
            simp only [Act.put, List.setIfInBounds_toArray, List.set_cons_zero, List.set_cons_succ]
            refine wpAnyH_take (i := 22) (oi := { dst := some 0, op := Go.Op.assign (Go.Operand.tmp 79), type := 4, pos := "law.go:30", after := #[{ on := 21, ground := Go.Ground.data }, { on := 19, ground := Go.Ground.chain }, { on := 0, ground := Go.Ground.phase }, { on := 1, ground := Go.Ground.phase }, { on := 2, ground := Go.Ground.phase }, { on := 3, ground := Go.Ground.phase }, { on := 4, ground := Go.Ground.phase }, { on := 5, ground := Go.Ground.phase }, { on := 6, ground := Go.Ground.phase }, { on := 7, ground := Go.Ground.phase }, { on := 8, ground := Go.Ground.phase }, { on := 9, ground := Go.Ground.phase }, { on := 10, ground := Go.Ground.phase }, { on := 11, ground := Go.Ground.phase }, { on := 12, ground := Go.Ground.phase }, { on := 13, ground := Go.Ground.phase }, { on := 14, ground := Go.Ground.phase }, { on := 15, ground := Go.Ground.phase }, { on := 16, ground := Go.Ground.phase }, { on := 17, ground := Go.Ground.phase }, { on := 18, ground := Go.Ground.phase }, { on := 19, ground := Go.Ground.phase }, { on := 20, ground := Go.Ground.phase }, { on := 21, ground := Go.Ground.phase }], guard := none }) (v := .bool true) rfl (by kernel_rfl) (by kernel_rfl) (by kernel_rfl) (fun _ _ _ h => h) (Or.inl ⟨by rfl, fun w hSw => by (try dsimp only at hSw); go_simp⟩) hS1 ?_
            simp only [Act.put, List.setIfInBounds_toArray, List.set_cons_zero]
            refine wpAnyH_done (by kernel_rfl) ?_ _
            clear hS1
            go_wp2
            go_ret
            exact ⟨rfl, awb.ds.bel⟩
        · rw [decide_eq_false h4] at c26
          have hn20 : (n : Int) < 20 := by omega
          go_wp2_with (go_at_call 26; refine c26.mono ?_; rintro e w9 ⟨rfl, awb⟩)
          go_roundw
          case rel => exact ⟨n + 1, by omega, by go_num, awb⟩
          case measure => simp [intOf]; omega
    · rw [decide_eq_false h7] at c20
      have hn20 : (n : Int) < 20 := by omega
      go_wp2_with (go_at_call 20; refine c20.mono ?_; rintro e w5 ⟨rfl, aw⟩)
      go_roundw
      case rel => exact ⟨n + 1, by omega, by go_num, aw⟩
      case measure => simp [intOf]; omega

end Go.Proofs.YtjbjijkkmlehgaaDoor
