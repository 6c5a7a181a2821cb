/- The document's example: awake's contract. -/
import Derived.Test.YtnegdabcjnhpdaaGreatDoorGK
import Derived.Test.YtnegdabcjnhpdaaGreatDoorGL
namespace Go.Proofs.YtnegdabcjnhpdaaGreatDoor
open Go.RowKit
open Mm (IsMem MS touched Only)
open Hh (WT)

theorem awk_at {B i : Nat} (hi : i ≤ 30) : okAt (awk B i) = true := by
  have h := awk_ok B
  rw [List.all_eq_true] at h
  exact h i (by simp; omega)
/-- The law's world and its one hand, behind i steps. -/
structure Aw (w wr : World) (Wb H M G B : Nat) (i : Nat) : Prop where
  x : ∃ C own v, Wt wr w.heap.size Wb M G B (awk B i).2 v ∧ wr.heap[H]? = some (.cells C 58 (0, 0)) ∧ HnAt wr w.heap.size Wb H M G B C 0 own (awk B i).1
  ne : H ≠ M ∧ H ≠ G ∧ H ≠ B ∧ H ≠ Wb
  lo : w.heap.size ≤ H
  bel : Below w.heap.size w wr
theorem Aw.cellB {w wr : World} {Wb H M G B i : Nat} (h : Aw w wr Wb H M G B i) : wr.cell? ⟨Wb, 7, none⟩ = some (.pointer (some ⟨B, 0, none⟩)) ∧ (∃ z, wr.cell? ⟨B, 0, none⟩ = some (.int .i64 z)) ∧ wr.frozen? ⟨B, 0, none⟩ = false := by
  obtain ⟨C, own, v, h1, h2, h3⟩ := h.x
  obtain ⟨mb, mt, hk⟩ := h1.gw.book
  exact ⟨Blk.cell (t := 35) h1.blk rfl, ⟨_, hk.cells.1⟩, hk.free 0⟩
/-- One more step, at the time i. -/
theorem Aw.step {w wr : World} {Wb H M G B i : Nat} (h : Aw w wr Wb H M G B i) (hi : i < 30) : Calls Tryz.prog 13 #[.pointer (some ⟨H, 0, none⟩), .pointer (some ⟨Wb, 0, none⟩)] (wr.setCell ⟨B, 0, none⟩ (.int .i64 (i : Nat))) fun e w' => e = .returned (.tuple #[]) ∧ Aw w w' Wb H M G B (i + 1) := by
  obtain ⟨C, own, v, h1, h2, h3⟩ := h.x
  obtain ⟨t1, t2⟩ := h1.time (now := (i : Int)) (by omega)
  have hl := h1.gw.lo1
  have hne := h.ne
  have hB : ∀ j ∈ [B], w.heap.size ≤ j := fun j hj => by simp at hj; omega
  have hb2 := t2.at h2 (by simp; exact hne.2.2.1) (by decide)
  have hh2 := h3.keep t2 hB (fun j hj => by simp; exact (h3.own j hj).2.2.2.2.2)
  have ok := awk_at (B := B) (i := i) (by omega)
  unfold okAt at ok
  simp only [Bool.and_eq_true, decide_eq_true_eq] at ok
  obtain ⟨⟨⟨⟨o1, o2⟩, o3⟩, o4⟩, o5⟩ := ok
  refine (step_lite t1 hb2 hh2 hne h.lo (by show (awk B i).2.g.T + 3 < _; omega) (by show (awk B i).2.done.length < _; omega) o5 o2).mono fun e w' ⟨e1, Q, C', own', v', s1, s2, s3, s4, s5, s6⟩ => ⟨e1, ⟨?_, hne, h.lo, ?_⟩⟩
  · rw [Hn.step_free o1] at s1 s4
    exact ⟨C', own', v', s1, s2, s4⟩
  · refine s5.below (t2.below h.bel hB (Nat.le_refl _) (Nat.le_refl _)) (fun j hj => ?_) (Nat.le_refl _) (Nat.le_refl _)
    have := h.lo
    have := h1.lo
    simp only [List.mem_cons] at hj
    rcases hj with rfl | rfl | rfl | rfl | rfl | hj
    · omega
    · omega
    · omega
    · omega
    · omega
    · exact (h3.own j hj).1
theorem Aw.fin {w wr : World} {Wb H M G B : Nat} (h : Aw w wr Wb H M G B 30) : ∃ g cap, wr.cell? ⟨Wb, 9, none⟩ = some (.slice (some ⟨g, 0, none⟩) 2 cap) ∧ wr.cell? ⟨g, 7, none⟩ = some (.bool true) ∧ wr.cell? ⟨g, 14, none⟩ = some (.int .i64 3) ∧ Calls Tryz.prog 14 #[.pointer (some ⟨Wb, 0, none⟩)] wr fun e w' => e = .returned (.bool true) ∧ Below wr.heap.size wr w' := by
  obtain ⟨C, own, v, h1, h2, h3⟩ := h.x
  have hd := awk_done B
  generalize (awk B 30).2 = u at *
  have hl : u.done.length = 2 := by rw [hd]; rfl
  obtain ⟨g, cap, e1, _, q⟩ := h1.done (i := 0) (by omega)
  obtain ⟨g', cap', e1', _, q'⟩ := h1.done (i := 1) (by omega)
  rw [e1] at e1'
  cases e1'
  refine ⟨g, cap, ?_, ?_, ?_, ?_⟩
  · rw [← hl, ← e1]
    exact Blk.cell (t := 35) h1.blk rfl
  · exact q 7 (by omega) _ (by rw [hd]; rfl)
  · exact q' 6 (by omega) _ (by rw [hd]; rfl)
  · have c := right_any2 h1 (fun i hi => ?_) (by omega)
    · rw [hd, awk_right] at c
      exact c
    · rw [hd]
      have : i = 0 ∨ i = 1 := by omega
      rcases this with rfl | rfl
      · exact ⟨.inr (.inl rfl), .inl rfl, by show (2 : Int) < _; omega, by show (-1 : Int) < _; omega⟩
      · exact ⟨.inl rfl, .inl rfl, by show (-1 : Int) < _; omega, by show (-1 : Int) < _; omega⟩
theorem aw0 {w w1 : World} {Wb M G B : Nat} (bg : Begun w w1 Wb M G B) : Aw w ((w1.alloc (.cells #[.int .i64 1, .int .i64 0, .int .i64 3, .int .i64 0, .int .i64 0, .int .i64 0, .int .i64 0, .int .i64 0] 51)).alloc (.cells #[.slice (some ⟨w1.heap.size, 0, none⟩) 2 2, .pointer none, .pointer none, .pointer none, .pointer none, .pointer none, .int .i64 0, .int .u64 0, .slice none 0 0, .int .i64 0] 58)) Wb (w1.heap.size + 1) M G B 0 := by
  have b1 := alloc_below w1 (.cells #[.int .i64 1, .int .i64 0, .int .i64 3, .int .i64 0, .int .i64 0, .int .i64 0, .int .i64 0, .int .i64 0] 51)
  have h1 := new_obj w1 (.cells #[.int .i64 1, .int .i64 0, .int .i64 3, .int .i64 0, .int .i64 0, .int .i64 0, .int .i64 0, .int .i64 0] 51)
  have hz : (w1.alloc (.cells #[.int .i64 1, .int .i64 0, .int .i64 3, .int .i64 0, .int .i64 0, .int .i64 0, .int .i64 0, .int .i64 0] 51)).heap.size = w1.heap.size + 1 := by simp
  have h0 : Wt w1 w.heap.size Wb M G B (awk B 0).2 (.slice none 0 0) := ⟨by rw [KC_N]; exact bg.gw, bg.blk, ⟨rfl, .inl ⟨rfl, rfl⟩⟩, bg.ne, bg.lo⟩
  have hM := h0.gw.mem.lt
  have hB : B < w1.heap.size := by obtain ⟨_, _, x⟩ := h0.gw.book; exact x.lt
  have hW : Wb < w1.heap.size := lt_of_block bg.blk
  replace h0 := h0.below b1
  have hb := bg.bel
  have hs := hb.size
  have hb1 := seq_below hb b1
  generalize w1.heap.size = n at *
  generalize w1.alloc (.cells #[.int .i64 1, .int .i64 0, .int .i64 3, .int .i64 0, .int .i64 0, .int .i64 0, .int .i64 0, .int .i64 0] 51) = w2 at *
  have b2 := alloc_below w2 (.cells #[.slice (some ⟨n, 0, none⟩) 2 2, .pointer none, .pointer none, .pointer none, .pointer none, .pointer none, .int .i64 0, .int .u64 0, .slice none 0 0, .int .i64 0] 58)
  have h2 := new_obj w2 (.cells #[.slice (some ⟨n, 0, none⟩) 2 2, .pointer none, .pointer none, .pointer none, .pointer none, .pointer none, .int .i64 0, .int .u64 0, .slice none 0 0, .int .i64 0] 58)
  rw [hz] at h2
  have hA := (b2.block n (by omega)).trans h1
  replace h0 := h0.below b2
  have hb2 := seq_below hb1 b2
  generalize w2.alloc (.cells #[.slice (some ⟨n, 0, none⟩) 2 2, .pointer none, .pointer none, .pointer none, .pointer none, .pointer none, .int .i64 0, .int .u64 0, .slice none 0 0, .int .i64 0] 58) = w3 at *
  refine ⟨⟨_, [], _, h0, h2, ⟨by show 0 + 10 ≤ 10; omega, ⟨_, rfl, _, 2, rfl, by show 2 ≤ 2; omega, by omega, fun i hi => ?_⟩, fun _ => ⟨rfl, rfl, rfl, rfl⟩, (fun a m h => by cases h), fun i hi => by cases hi⟩⟩, by omega, by omega, hb2⟩
  have hi2 : i = 0 ∨ i = 1 := by have : i < 2 := hi; omega
  have cA : ∀ {j : Nat} {x : Value}, (#[.int .i64 1, .int .i64 0, .int .i64 3, .int .i64 0, .int .i64 0, .int .i64 0, .int .i64 0, .int .i64 0] : Array Value)[j]? = some x → w3.cell? ⟨n, j, none⟩ = some x := fun h => Blk.cell (t := 51) hA h
  rcases hi2 with rfl | rfl
  · exact ⟨n, 0, rfl, .inr ⟨_, _, hA⟩, ⟨1, 0, 3, 0⟩, rfl, cA rfl, cA rfl, cA rfl, cA rfl⟩
  · exact ⟨n, 0, rfl, .inr ⟨_, _, hA⟩, ⟨0, 0, 0, 0⟩, rfl, cA rfl, cA rfl, cA rfl, cA rfl⟩
set_option maxRecDepth 100000 in
set_option maxHeartbeats 8000000 in
theorem awake_any {w : World} (hw : WT w) : Calls Tryz.prog 4 #[] w fun e w' => e = .returned (.bool true) ∧ Below w.heap.size w w' := by
  have c8 := begin_any hw
  go_enter Tryz.func4, Tryz.ntmps4
  go_upto_region 2 with (go_at_call 5; with_reducible refine c8.mono ?_; rintro e w1 ⟨Wb, M, G, B, rfl, bg⟩)
  have y7 : w1.cell? ⟨Wb, 7, none⟩ = some (.pointer (some ⟨B, 0, none⟩)) := Blk.cell (t := 35) bg.blk rfl
  have y6 : w1.cell? ⟨Wb, 6, none⟩ = some (.pointer (some ⟨M, 0, none⟩)) := Blk.cell (t := 35) bg.blk rfl
  go_upto_region 5 with fail
  have aw := aw0 bg
  clear bg y7 y6 c8
  generalize (w1.alloc (.cells #[.int .i64 1, .int .i64 0, .int .i64 3, .int .i64 0, .int .i64 0, .int .i64 0, .int .i64 0, .int .i64 0] 51)).alloc (.cells #[.slice (some ⟨w1.heap.size, 0, none⟩) 2 2, .pointer none, .pointer none, .pointer none, .pointer none, .pointer none, .int .i64 0, .int .u64 0, .slice none 0 0, .int .i64 0] 58) = w3 at *
  generalize w1.heap.size + 1 = H at *
  go_wp2
  go_loopw [3] (fun i wr => ∃ j : Nat, j ≤ 30 ∧ i = .int .i64 j ∧ Aw w wr Wb H M G B j) (fun i _ => 30 - (intOf i).toNat)
  case atStart => exact ⟨0, by omega, rfl, aw⟩
  case round =>
    clear aw
    obtain ⟨j, hj, rfl, aw⟩ := hrel
    by_cases hj30 : j < 30
    · have hjI : (j : Int) < 30 := by omega
      obtain ⟨q7, ⟨z, qz⟩, qf⟩ := aw.cellB
      have cS := aw.step hj30
      go_wp2_with (go_at_call 13; with_reducible refine cS.mono ?_; rintro e w5 ⟨rfl, aw2⟩)
      go_roundw
      case rel => exact ⟨j + 1, by omega, by go_num, aw2⟩
      case measure => simp [intOf]; omega
    · have hjI : ¬ (j : Int) < 30 := by omega
      obtain rfl : j = 30 := by omega
      have hbel := aw.bel
      obtain ⟨g, cap, q9, q7, q14, cR⟩ := aw.fin
      go_wp2_with (go_at_call 14; with_reducible refine cR.mono ?_; rintro e w5 ⟨rfl, b5⟩)
      go_ret
      exact ⟨rfl, seq_below hbel b5⟩
end Go.Proofs.YtnegdabcjnhpdaaGreatDoor
