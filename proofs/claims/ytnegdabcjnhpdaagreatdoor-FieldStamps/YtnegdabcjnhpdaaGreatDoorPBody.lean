/- Where a word of a slot's body stands. -/
import Derived.Test.YtnegdabcjnhpdaaGreatDoorPPlaces
namespace Go.Proofs.YtnegdabcjnhpdaaGreatDoor
open Go.RowKit

theorem body_no {s a c d g k : Int} (i j : Int) (hr : (rightB s a c d g k && be i s) = false) (w : World) : Calls Tryz.prog 37 #[.agg (cs s a c d g k), .int .i64 i, .int .i64 j] w fun e w' => e = .returned (.int .i64 (-1)) ∧ Below w.heap.size w w' := by
  have c1 := hasSlot_any s a c d g k i
  rw [hr] at c1
  have bel := alloc_below w (.cells #[.int .i64 s, .int .i64 a, .int .i64 c, .int .i64 d, .int .i64 g, .int .i64 k] 30)
  have hh := cfg_new w s a c d g k
  go_enter Tryz.func37, Tryz.ntmps37
  go_wp2_with (go_at_call 62; refine (c1 _).mono ?_; rintro e w1 ⟨rfl, b⟩; replace bel := seq_below bel b; replace hh := hh.below b)
  go_ret
  exact ⟨rfl, bel⟩

set_option linter.unusedSimpArgs false in
theorem body_yes {s a c d g k : Int} (i j : Int) (hr : rightB s a c d g k = true) (hi : be i s = true) (hj0 : be j (bsI a) = true) (w : World) : Calls Tryz.prog 37 #[.agg (cs s a c d g k), .int .i64 i, .int .i64 j] w fun e w' => e = .returned (.int .i64 (fsI c d + i * ssI a + 2 + j)) ∧ Below w.heap.size w w' := by
  have h := rt_of hr
  have c1 := hasSlot_any s a c d g k i
  rw [hr, hi, Bool.true_and] at c1
  have hi' := be_iff.1 hi
  have hj := be_iff.1 hj0
  have hs := h.s
  have b1 := h.fs
  have b3 := h.sm (i := i) (by omega)
  have b4 := bsI_b a h.a
  have f1 := header_yes i hr hi
  have f2 := bodySize_any s a c d g k
  have c2 := isBelow_any j (bsI a)
  rw [hj0] at c2
  clear h hr hi hj0
  generalize fsI c d = F at *
  generalize ssI a = S at *
  generalize bsI a = B at *
  generalize i * S = P at *
  have bel := alloc_below w (.cells #[.int .i64 s, .int .i64 a, .int .i64 c, .int .i64 d, .int .i64 g, .int .i64 k] 30)
  have hh := cfg_new w s a c d g k
  go_enter Tryz.func37, Tryz.ntmps37
  go_wp2_with (first
    | (go_at_call 62; refine (c1 _).mono ?_; rintro e w1 ⟨rfl, b⟩; replace bel := seq_below bel b; replace hh := hh.below b; obtain ⟨l0, l1, l2, l3, l4, l5⟩ := hh.cells)
    | (go_at_call 65; refine (f1 _).mono ?_; rintro e w1 ⟨rfl, b⟩; replace bel := seq_below bel b)
    | (go_at_call 64; refine (f2 _).mono ?_; rintro e w1 ⟨rfl, b⟩; replace bel := seq_below bel b; replace hh := hh.below b; obtain ⟨l0, l1, l2, l3, l4, l5⟩ := hh.cells)
    | (go_at_call 63; refine (c2 _).mono ?_; rintro e w1 ⟨rfl, rfl⟩))
  go_ret
  exact ⟨rfl, bel⟩

theorem body_no2 {s a c d g k : Int} (i j : Int) (hr : (rightB s a c d g k && be i s) = true) (hj0 : be j (bsI a) = false) (w : World) : Calls Tryz.prog 37 #[.agg (cs s a c d g k), .int .i64 i, .int .i64 j] w fun e w' => e = .returned (.int .i64 (-1)) ∧ Below w.heap.size w w' := by
  have c1 := hasSlot_any s a c d g k i
  rw [hr] at c1
  have c2 := isBelow_any j (bsI a)
  have f2 := bodySize_any s a c d g k
  rw [hj0] at c2
  clear hr hj0
  generalize bsI a = B at *
  have bel := alloc_below w (.cells #[.int .i64 s, .int .i64 a, .int .i64 c, .int .i64 d, .int .i64 g, .int .i64 k] 30)
  have hh := cfg_new w s a c d g k
  go_enter Tryz.func37, Tryz.ntmps37
  go_wp2_with (first
    | (go_at_call 62; refine (c1 _).mono ?_; rintro e w1 ⟨rfl, b⟩; replace bel := seq_below bel b; replace hh := hh.below b; obtain ⟨l0, l1, l2, l3, l4, l5⟩ := hh.cells)
    | (go_at_call 64; refine (f2 _).mono ?_; rintro e w1 ⟨rfl, b⟩; replace bel := seq_below bel b; replace hh := hh.below b; obtain ⟨l0, l1, l2, l3, l4, l5⟩ := hh.cells)
    | (go_at_call 63; refine (c2 _).mono ?_; rintro e w1 ⟨rfl, rfl⟩))
  go_ret
  exact ⟨rfl, bel⟩


end Go.Proofs.YtnegdabcjnhpdaaGreatDoor
