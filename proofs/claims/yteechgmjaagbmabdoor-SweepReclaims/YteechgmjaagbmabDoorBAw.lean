/- The document's example of layer 14: the law's 'awake'. -/
import Derived.Test.YteechgmjaagbmabDoorBAw0
import Derived.Test.YteechgmjaagbmabDoorBLaid
namespace Go.Proofs.YteechgmjaagbmabDoor
open Go.RowKit
open Mm (IsMem MS touched Only IsWords)
open Hh (WT)

/-- What is known of the world within the example. -/
structure Aw (w wr : World) (M G : Nat) (X : List Nat) (T : Int) : Prop where
  mem : MemX wr M G X T
  wt : WT wr
  cfg : IsCfg wr w.heap.size 2 1 1 1 9 0
  bel : Below w.heap.size w wr
  hM : w.heap.size < M ∧ w.heap.size < G
theorem Aw.below {w wr w' : World} {M G : Nat} {X : List Nat} {T : Int} (h : Aw w wr M G X T) (b : Below wr.heap.size wr w') : Aw w w' M G X T :=
  ⟨h.mem.below b, h.wt.below b, h.cfg.below b, seq_below h.bel b, h.hM⟩
theorem aw_rd {w : World} {Q : Nat} (h : w.heap[Q]? = some (.cells #[.int .i64 1, .int .i64 0, .bool false, .int .i64 0, .int .i64 0, .int .i64 0, .slice none 0 0] 68 (0, 0))) : RdV w (some ⟨Q, 0, none⟩) 1 awZ := by
  intro i hi
  obtain rfl : i = 0 := by omega
  refine ⟨Q, 0, rfl, lt_of_block h, ?_, none, 0, ?_, by show 0 < _; omega, fun j hj => absurd hj (by show ¬ j < 0; omega)⟩
  · simp [World.cell?, h, awZ]
  · simp [World.cell?, h, awZ]
theorem rdU_nil (w : World) (ad : Option Addr) (r : Nat → Nat) : RdU w ad 0 r := fun i hi => absurd hi (by omega)
theorem aw_laid {w : World} (hw : WT w) {Q : Nat} (h : w.heap[Q]? = some (.cells #[.int .i64 1, .int .i64 0, .bool false, .int .i64 0, .int .i64 0, .int .i64 0, .slice none 0 0] 68 (0, 0))) :
    Calls Tryd.prog 9 #[.agg #[.int .i64 2, .int .i64 1, .int .i64 1, .int .i64 1, .int .i64 9, .int .i64 0], .slice (some ⟨Q, 0, none⟩) 1 1, .slice none 0 0, .slice none 0 0] w fun r w' => ∃ R, r = .returned (.slice (some ⟨R, 0, none⟩) 18 18) ∧ IsWords w' R awX ∧ w.heap.size + 1 ≤ R ∧ Below w.heap.size w w' := by
  have q := laid_any K2_ok (cap := 1) (rcap := 0) (vcap := 0) (aw_rd h) (rdU_nil w none (fun _ => 0)) (rdU_nil w none (fun _ => 0)) (by omega) (by omega) (by omega) hw
  rw [K2_N] at q
  exact q.mono fun r w' ⟨R, h1, h2, _, h4, h5⟩ => ⟨R, h1, h2, h4, h5⟩
theorem aw_of {w : World} {R : Nat} (h : IsWords w R awX) : Calls Tryd.prog 10 #[.slice (some ⟨R, 0, none⟩) 18 18] w fun r w' => ∃ M G, r = .returned (.pointer (some ⟨M, 0, none⟩)) ∧ MemX w' M G awX 0 ∧ w.heap.size ≤ M ∧ w.heap.size ≤ G ∧ Below w.heap.size w w' := by
  have q := Mm.of_any h (by decide +kernel) (by rw [aw_len]; omega)
  rw [aw_len] at q
  exact q.mono fun r w' ⟨M, G, h1, h2, h3⟩ => ⟨M, G, h1, ⟨_, h2, rfl, rfl⟩, h3⟩
theorem aw_newS (w : World) : Calls Tryd.prog 11 #[.agg #[.int .i64 2, .int .i64 1, .int .i64 1, .int .i64 1, .int .i64 9, .int .i64 0], .int .u64 3] w fun r w' => ∃ P, r = .returned (.pointer (some ⟨P, 0, none⟩)) ∧ NewBlk w w' P #[.int .i64 0, .int .i64 (K2.S : Nat), .int .i64 K2.a, .int .i64 (K2.C : Nat), .int .i64 (K2.D : Nat), .int .i64 K2.g, .int .i64 K2.k, .int .u64 ((3 : Nat) : Int), .int .i64 0, .int .i64 0, .int .u64 0, .int .u64 0] 49 := newSweep_yes K2_ok 3 w
theorem aw_newR (w : World) : Calls Tryd.prog 21 #[.agg #[.int .i64 2, .int .i64 1, .int .i64 1, .int .i64 1, .int .i64 9, .int .i64 0]] w fun r w' => ∃ P, r = .returned (.pointer (some ⟨P, 0, none⟩)) ∧ NewBlk w w' P #[.int .i64 0, .int .i64 0, .int .i64 (K2.S : Nat), .int .i64 K2.a, .int .i64 (K2.C : Nat), .int .i64 (K2.D : Nat), .int .i64 K2.g, .int .i64 K2.k, .int .i64 0, .int .i64 0, .bool false, .bool false, .int .i64 0, .int .i64 0, .int .i64 0, .int .i64 0, .int .i64 0, .int .i64 0, .int .i64 0, .int .i64 0, .int .i64 0, .int .i64 0, .int .u64 0, .int .i64 0, .int .u64 0] 63 := newReclaim_yes K2_ok w

theorem aw_one {w6 : World} {M G P : Nat} (hm : MemX w6 M G awX 0) (hw : WT w6) (hb : w6.heap[P]? = some (.cells #[.int .i64 0, .int .i64 (K2.S : Nat), .int .i64 K2.a, .int .i64 (K2.C : Nat), .int .i64 (K2.D : Nat), .int .i64 K2.g, .int .i64 K2.k, .int .u64 ((3 : Nat) : Int), .int .i64 0, .int .i64 0, .int .u64 0, .int .u64 0] 49 (0, 0))) (hP : P ≠ M ∧ P ≠ G) (h0 : 0 < P ∧ 0 < M ∧ 0 < G) :
    Calls Tryd.prog 12 #[.iface 32 (.pointer (some ⟨P, 0, none⟩)), .pointer (some ⟨M, 0, none⟩), .int .i64 9] w6 fun e w' => e = .returned (.bool true) ∧ SwI w6 K2 M G P awX (sw0 3) 0 3 w' :=
  sw_ends K2_ok (most := 9) (swI_new K2_ok (T0 := 0) (by omega) hm hw (by rw [aw_len, K2_N]) (by omega) hb hP h0) (by omega) (by omega) (by omega) (by omega) (by show 0 < _; omega) aw_sw
theorem aw_mid {w6 w7 : World} {M G P Q : Nat} (h : SwI w6 K2 M G P awX (sw0 3) 0 3 w7) (hq : w6.heap[Q]? = some (.cells #[.int .i64 0, .int .i64 0, .int .i64 (K2.S : Nat), .int .i64 K2.a, .int .i64 (K2.C : Nat), .int .i64 (K2.D : Nat), .int .i64 K2.g, .int .i64 K2.k, .int .i64 0, .int .i64 0, .bool false, .bool false, .int .i64 0, .int .i64 0, .int .i64 0, .int .i64 0, .int .i64 0, .int .i64 0, .int .i64 0, .int .i64 0, .int .i64 0, .int .i64 0, .int .u64 0, .int .i64 0, .int .u64 0] 63 (0, 0))) (hne : Q ≠ P ∧ Q ≠ M ∧ Q ≠ G) (h0 : 0 < Q) :
    w7.cell? ⟨P, 0, none⟩ = some (.int .i64 1) ∧ Chg [P, M, G] w6 w7 ∧ Calls Tryd.prog 12 #[.iface 52 (.pointer (some ⟨Q, 0, none⟩)), .pointer (some ⟨M, 0, none⟩), .int .i64 20] w7 fun e w8 => e = .returned (.bool true) ∧ w8.cell? ⟨Q, 0, none⟩ = some (.int .i64 1) ∧ w8.cell? ⟨Q, 1, none⟩ = some (.int .i64 0) ∧ Chg [Q, M, G] w7 w8 := by
  obtain ⟨c, is, hs, ok, _⟩ := h
  have hg := is.cell hs.gone
  rw [aw_gone] at hg
  refine ⟨hg, is.ch, ?_⟩
  have hb := is.ch.at hq (by simp; omega)
  have r0 := reI_new K2_ok (T0 := 3) is.mem is.wt is.len (by omega) hb ⟨hne.2.1, hne.2.2⟩ ⟨h0, is.pos.2⟩
  refine (re_ends K2_ok (most := 20) r0 (by omega) (by omega) (by omega) (by omega) aw_re).mono fun e w8 ⟨he, c8, i8, s8, _⟩ => ?_
  have g1 := i8.cell s8.back
  have g2 := i8.cell s8.gone
  rw [aw_back.1] at g1
  rw [aw_back.2] at g2
  exact ⟨he, g1, g2, i8.ch⟩

set_option maxRecDepth 100000 in
set_option maxHeartbeats 8000000 in
theorem awake_any (w : World) (hw : WT w) : Calls Tryd.prog 8 #[] w fun e w' => e = .returned (.bool true) ∧ Below w.heap.size w w' := by
  have b1 := alloc_below w (.cells #[.int .i64 2, .int .i64 1, .int .i64 1, .int .i64 1, .int .i64 9, .int .i64 0] 23)
  have hh := cfg_new w 2 1 1 1 9 0
  have hw0 := hw.lt
  replace hw := hw.below b1
  go_enter Tryd.func8, Tryd.ntmps8
  go_upto_region 2 with fail
  generalize w.alloc (.cells #[.int .i64 2, .int .i64 1, .int .i64 1, .int .i64 1, .int .i64 9, .int .i64 0] 23) = w1 at *
  obtain ⟨l0, l1, l2, l3, l4, l5⟩ := hh.cells
  have n1 := new_obj w1 (.cells #[.int .i64 1, .int .i64 0, .bool false, .int .i64 0, .int .i64 0, .int .i64 0, .slice none 0 0] 68)
  have b2 := alloc_below w1 (.cells #[.int .i64 1, .int .i64 0, .bool false, .int .i64 0, .int .i64 0, .int .i64 0, .slice none 0 0] 68)
  have c9 := aw_laid (hw.below b2) n1
  have hw2 := hw.below b2
  have hh2 := hh.below b2
  replace b1 := seq_below b1 b2
  clear hw n1 b2
  go_upto_region 3 with (first
    | (go_at_call 9; with_reducible refine c9.mono ?_; rintro r w3 ⟨R, rfl, hR, hR1, hb⟩; replace b1 := seq_below b1 hb; replace hw2 := hw2.below hb; replace hh2 := hh2.below hb; have c10 := aw_of hR)
    | (go_at_call 10; with_reducible refine c10.mono ?_; rintro r w4 ⟨M, G, rfl, hm, hM, hG, hb2⟩))
  have is : Aw w w4 M G awX 0 := ⟨hm, hw2.below hb2, hh2.below hb2, seq_below b1 hb2, by have := hh2.lt; omega⟩
  have hMs := hm.lt
  clear c9 c10 hR hR1 hb hm hb2 hh hw2 hh2 b1 l0 l1 l2 l3 l4 l5 hM hG
  replace is := is.below (Below.refl _ _).drew
  have cc := is.cfg.cells
  go_region_held (fun wq => wq.cell? ⟨w.heap.size, 0, none⟩ = some (.int .i64 2) ∧ wq.cell? ⟨w.heap.size, 1, none⟩ = some (.int .i64 1) ∧ wq.cell? ⟨w.heap.size, 2, none⟩ = some (.int .i64 1) ∧ wq.cell? ⟨w.heap.size, 3, none⟩ = some (.int .i64 1) ∧ wq.cell? ⟨w.heap.size, 4, none⟩ = some (.int .i64 9) ∧ wq.cell? ⟨w.heap.size, 5, none⟩ = some (.int .i64 0)) (with_reducible exact is.cfg.cells) (first
    | (go_at_call 11; with_reducible refine (aw_newS _).mono ?_; rintro r w5 ⟨P, rfl, nb⟩; replace is := is.below nb.bel)
    | (go_at_call 21; with_reducible refine (aw_newR _).mono ?_; rintro r w6 ⟨Q, rfl, nq⟩; replace is := is.below nq.bel))
  have hs4 : w4.heap.size ≤ P := nb.new
  have hPl := lt_of_block nb.blk
  have hQl : w5.heap.size ≤ Q := nq.new
  have bP := (nq.bel.block P hPl).trans nb.blk
  have q1 := aw_one is.mem is.wt bP ⟨by omega, by omega⟩ (by have := is.hM; omega)
  have hQP : Q ≠ P ∧ Q ≠ M ∧ Q ≠ G := by omega
  have hQ0 : 0 < Q := by omega
  have hM := is.hM
  have hPw : w.heap.size ≤ P ∧ w.heap.size ≤ Q := by have := is.cfg.lt; have := is.bel.size; have := nb.bel.size; omega
  have bel := is.bel
  have HM := hid1 (fun (w7 : World) (h : SwI w6 K2 M G P awX (sw0 3) 0 3 w7) => aw_mid h nq.blk hQP hQ0)
  clear nb nq bP is cc
  go_wp2_with (first
    | (go_at_call 12; with_reducible refine q1.mono ?_; rintro r w7 ⟨rfl, s7⟩; obtain ⟨g1, ch1, q2⟩ := HM.out _ s7)
    | (go_at_call 12; with_reducible refine q2.mono ?_; rintro r w8 ⟨rfl, g2, g3, ch2⟩))
  go_ret
  exact ⟨rfl, ch2.below (ch1.below bel (by simp; omega) (Nat.le_refl _)) (by simp; omega) (Nat.le_refl _)⟩
end Go.Proofs.YteechgmjaagbmabDoor
