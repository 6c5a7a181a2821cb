/- SweepNone: the walk. -/
import Derived.Test.YteechgmjaagbmabDoorBAw
namespace Go.Proofs.YteechgmjaagbmabDoor
open Go.RowKit
open Mm (IsMem MS touched Only IsWords)
open Hh (WT)

structure Nn (w wr : World) (s a c d g k : Int) : Prop where
  cfg : IsCfg wr w.heap.size s a c d g k
  bel : Below w.heap.size w wr
  wt : WT wr
theorem Nn.below {w wr w' : World} {s a c d g k : Int} (h : Nn w wr s a c d g k) (b : Below wr.heap.size wr w') : Nn w w' s a c d g k := ⟨h.cfg.below b, seq_below h.bel b, h.wt.below b⟩

set_option maxRecDepth 100000 in
set_option maxHeartbeats 8000000 in
theorem none_law (s a c d g k : Int) (e : Nat) (w : World) (hw : WT w) :
    Calls Tryd.prog 6 #[.agg #[.int .i64 s, .int .i64 a, .int .i64 c, .int .i64 d, .int .i64 g, .int .i64 k], .int .u64 (e : Nat)] w fun r w' => r = .returned (.bool true) ∧ Below w.heap.size w w' := by
  have b1 := alloc_below w (.cells #[.int .i64 s, .int .i64 a, .int .i64 c, .int .i64 d, .int .i64 g, .int .i64 k] 23)
  have is : Nn w _ s a c d g k := ⟨cfg_new w s a c d g k, b1, hw.below b1⟩
  have c29 := rright_any s a c d g k
  have c20 := sw_nil (.pointer none)
  have c25 := re_nil (.pointer none)
  clear b1 hw
  cases hr : rightB s a c d g k
  · rw [hr] at c29
    have c11 := newSweep_no hr e
    have c21 := newReclaim_no hr
    unfold cs at *
    clear hr
    go_enter Tryd.func6, Tryd.ntmps6
    go_upto_region 3 with fail
    generalize w.alloc (.cells #[.int .i64 s, .int .i64 a, .int .i64 c, .int .i64 d, .int .i64 g, .int .i64 k] 23) = w1 at *
    replace is := is.below (Below.refl _ _).drew
    go_region_held (fun wq => wq.cell? ⟨w.heap.size, 0, none⟩ = some (.int .i64 s) ∧ wq.cell? ⟨w.heap.size, 1, none⟩ = some (.int .i64 a) ∧ wq.cell? ⟨w.heap.size, 2, none⟩ = some (.int .i64 c) ∧ wq.cell? ⟨w.heap.size, 3, none⟩ = some (.int .i64 d) ∧ wq.cell? ⟨w.heap.size, 4, none⟩ = some (.int .i64 g) ∧ wq.cell? ⟨w.heap.size, 5, none⟩ = some (.int .i64 k)) (with_reducible exact is.cfg.cells) (first
      | (go_at_call 11; with_reducible refine (c11 _).mono ?_; rintro r w5 ⟨rfl, b⟩; replace is := is.below b)
      | (go_at_call 29; with_reducible refine (c29 _).mono ?_; rintro r w5 ⟨rfl, b⟩; replace is := is.below b)
      | (go_at_call 21; with_reducible refine (c21 _).mono ?_; rintro r w5 ⟨rfl, b⟩; replace is := is.below b)
      | (go_at_call 20; with_reducible refine (c20 _).mono ?_; rintro r w5 ⟨rfl, rfl⟩)
      | (go_at_call 25; with_reducible refine (c25 _).mono ?_; rintro r w5 ⟨rfl, rfl⟩)
      | (go_at_call 8; with_reducible refine (awake_any _ is.wt).mono ?_; rintro r w5 ⟨rfl, b⟩; replace is := is.below b))
    all_goals
      go_wp2
      go_ret
      exact ⟨rfl, is.bel⟩
  · rw [hr] at c29
    obtain ⟨K, hK, rfl, rfl, rfl, rfl, rfl, rfl⟩ := Cf.of_right hr
    have c11 := newSweep_yes hK e
    have c21 := newReclaim_yes hK
    unfold Cf.cs at *
    unfold cs at *
    clear hr
    go_enter Tryd.func6, Tryd.ntmps6
    go_upto_region 3 with fail
    generalize w.alloc (.cells #[.int .i64 (K.S : Nat), .int .i64 K.a, .int .i64 (K.C : Nat), .int .i64 (K.D : Nat), .int .i64 K.g, .int .i64 K.k] 23) = w1 at *
    replace is := is.below (Below.refl _ _).drew
    go_region_held (fun wq => wq.cell? ⟨w.heap.size, 0, none⟩ = some (.int .i64 (K.S : Nat)) ∧ wq.cell? ⟨w.heap.size, 1, none⟩ = some (.int .i64 K.a) ∧ wq.cell? ⟨w.heap.size, 2, none⟩ = some (.int .i64 (K.C : Nat)) ∧ wq.cell? ⟨w.heap.size, 3, none⟩ = some (.int .i64 (K.D : Nat)) ∧ wq.cell? ⟨w.heap.size, 4, none⟩ = some (.int .i64 K.g) ∧ wq.cell? ⟨w.heap.size, 5, none⟩ = some (.int .i64 K.k)) (with_reducible exact is.cfg.cells) (first
      | (go_at_call 11; with_reducible refine (c11 _).mono ?_; rintro r w5 ⟨P, rfl, nb⟩; replace is := is.below nb.bel; clear nb)
      | (go_at_call 29; with_reducible refine (c29 _).mono ?_; rintro r w5 ⟨rfl, b⟩; replace is := is.below b)
      | (go_at_call 21; with_reducible refine (c21 _).mono ?_; rintro r w5 ⟨Q, rfl, nb⟩; replace is := is.below nb.bel; clear nb)
      | (go_at_call 20; with_reducible refine (c20 _).mono ?_; rintro r w5 ⟨rfl, rfl⟩)
      | (go_at_call 25; with_reducible refine (c25 _).mono ?_; rintro r w5 ⟨rfl, rfl⟩)
      | (go_at_call 8; with_reducible refine (awake_any _ is.wt).mono ?_; rintro r w5 ⟨rfl, b⟩; replace is := is.below b))
    all_goals
      go_wp2
      go_ret
      exact ⟨rfl, is.bel⟩
end Go.Proofs.YteechgmjaagbmabDoor
