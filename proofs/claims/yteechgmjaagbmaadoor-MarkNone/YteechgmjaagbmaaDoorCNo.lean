/- MarkNone: the walk. -/
import Derived.Test.YteechgmjaagbmaaDoorCAw
namespace Go.Proofs.YteechgmjaagbmaaDoor
open Go.RowKit
open Mm (IsMem MS touched Only IsWords)
open Hh (WT)

structure Nn (w wr : World) (s a c d g k : Int) : Prop where
  cfg : IsCfg wr w.heap.size s a c d g k
  bel : Below w.heap.size w wr
  wt : WT wr
theorem Nn.below {w wr w' : World} {s a c d g k : Int} (h : Nn w wr s a c d g k) (b : Below wr.heap.size wr w') : Nn w w' s a c d g k := ⟨h.cfg.below b, seq_below h.bel b, h.wt.below b⟩

set_option maxRecDepth 100000 in
set_option maxHeartbeats 8000000 in
theorem none_law (s a c d g k : Int) (e : Nat) (w : World) (hw : WT w) :
    Calls Tryd.prog 3 #[.agg #[.int .i64 s, .int .i64 a, .int .i64 c, .int .i64 d, .int .i64 g, .int .i64 k], .int .u64 (e : Nat)] w fun r w' => r = .returned (.bool true) ∧ Below w.heap.size w w' := by
  have b1 := alloc_below w (.cells #[.int .i64 s, .int .i64 a, .int .i64 c, .int .i64 d, .int .i64 g, .int .i64 k] 23)
  have is : Nn w _ s a c d g k := ⟨cfg_new w s a c d g k, b1, hw.below b1⟩
  have c5 := rright_any s a c d g k
  have c6 := km_nil (.pointer none)
  clear b1 hw
  cases hr : rightB s a c d g k
  · rw [hr] at c5
    have c4 := newMark_no hr e
    unfold cs at *
    clear hr
    go_enter Tryd.func3, Tryd.ntmps3
    go_upto_region 2 with fail
    generalize w.alloc (.cells #[.int .i64 s, .int .i64 a, .int .i64 c, .int .i64 d, .int .i64 g, .int .i64 k] 23) = w1 at *
    replace is := is.below (Below.refl _ _).drew
    go_region_held (fun wq => wq.cell? ⟨w.heap.size, 0, none⟩ = some (.int .i64 s) ∧ wq.cell? ⟨w.heap.size, 1, none⟩ = some (.int .i64 a) ∧ wq.cell? ⟨w.heap.size, 2, none⟩ = some (.int .i64 c) ∧ wq.cell? ⟨w.heap.size, 3, none⟩ = some (.int .i64 d) ∧ wq.cell? ⟨w.heap.size, 4, none⟩ = some (.int .i64 g) ∧ wq.cell? ⟨w.heap.size, 5, none⟩ = some (.int .i64 k)) (with_reducible exact is.cfg.cells) (first
      | (go_at_call 4; with_reducible refine (c4 _).mono ?_; rintro r w5 ⟨rfl, b⟩; replace is := is.below b)
      | (go_at_call 5; with_reducible refine (c5 _).mono ?_; rintro r w5 ⟨rfl, b⟩; replace is := is.below b)
      | (go_at_call 6; with_reducible refine (c6 _).mono ?_; rintro r w5 ⟨rfl, rfl⟩)
      | (go_at_call 7; with_reducible refine (awake_any _ is.wt).mono ?_; rintro r w5 ⟨rfl, b⟩; replace is := is.below b))
    all_goals
      go_wp2
      go_ret
      exact ⟨rfl, is.bel⟩
  · rw [hr] at c5
    obtain ⟨K, hK, rfl, rfl, rfl, rfl, rfl, rfl⟩ := Cf.of_right hr
    have c4 := fun w => (newMark_yes hK e w).mono (R' := fun r w' => ∃ P, r = .returned (.pointer (some ⟨P, 0, none⟩)) ∧ Below w.heap.size w w') fun r w' ⟨P, c, h1, h2, _⟩ => ⟨P, h1, h2.bel⟩
    unfold Cf.cs at *
    unfold cs at *
    clear hr
    go_enter Tryd.func3, Tryd.ntmps3
    go_upto_region 2 with fail
    generalize w.alloc (.cells #[.int .i64 (K.S : Nat), .int .i64 K.a, .int .i64 (K.C : Nat), .int .i64 (K.D : Nat), .int .i64 K.g, .int .i64 K.k] 23) = w1 at *
    replace is := is.below (Below.refl _ _).drew
    go_region_held (fun wq => wq.cell? ⟨w.heap.size, 0, none⟩ = some (.int .i64 (K.S : Nat)) ∧ wq.cell? ⟨w.heap.size, 1, none⟩ = some (.int .i64 K.a) ∧ wq.cell? ⟨w.heap.size, 2, none⟩ = some (.int .i64 (K.C : Nat)) ∧ wq.cell? ⟨w.heap.size, 3, none⟩ = some (.int .i64 (K.D : Nat)) ∧ wq.cell? ⟨w.heap.size, 4, none⟩ = some (.int .i64 K.g) ∧ wq.cell? ⟨w.heap.size, 5, none⟩ = some (.int .i64 K.k)) (with_reducible exact is.cfg.cells) (first
      | (go_at_call 4; with_reducible refine (c4 _).mono ?_; rintro r w5 ⟨P, rfl, b⟩; replace is := is.below b)
      | (go_at_call 5; with_reducible refine (c5 _).mono ?_; rintro r w5 ⟨rfl, b⟩; replace is := is.below b)
      | (go_at_call 6; with_reducible refine (c6 _).mono ?_; rintro r w5 ⟨rfl, rfl⟩)
      | (go_at_call 7; with_reducible refine (awake_any _ is.wt).mono ?_; rintro r w5 ⟨rfl, b⟩; replace is := is.below b))
    all_goals
      go_wp2
      go_ret
      exact ⟨rfl, is.bel⟩
end Go.Proofs.YteechgmjaagbmaaDoor
