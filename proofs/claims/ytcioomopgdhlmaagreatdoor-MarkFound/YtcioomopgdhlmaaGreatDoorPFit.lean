/- Contracts of the reference's fit and Fit: a config made right. -/
import Derived.Test.YtcioomopgdhlmaaGreatDoorPMem
import Derived.Deep.RegionHeld
namespace Go.Proofs.YtcioomopgdhlmaaGreatDoor
open Go.RowKit
open Mm (Only)

set_option maxHeartbeats 400000 in
theorem fit_1_12 (n : Int) (w : World) : Calls Tryz.prog 34 #[.int .i64 n, .int .i64 1, .int .i64 12] w fun e w' => (∃ r : Int, e = .returned (.int .i64 r) ∧ 1 ≤ r ∧ r ≤ 12) ∧ w = w' := by
  have h0 : 0 ≤ IntKind.u64.wrap n := by rw [IntKind.wrap_u64]; omega
  have h1 : 0 ≤ (IntKind.u64.wrap n).tmod 12 ∧ (IntKind.u64.wrap n).tmod 12 < 12 := by rw [Int.tmod_eq_emod_of_nonneg h0]; omega
  go_enter Tryz.func34, Tryz.ntmps34
  go_wp2
  go_ret
  refine ⟨⟨_, rfl, ?_, ?_⟩, rfl⟩ <;> first | omega | trace_state

set_option maxHeartbeats 400000 in
theorem fit_0_4 (n : Int) (w : World) : Calls Tryz.prog 34 #[.int .i64 n, .int .i64 0, .int .i64 4] w fun e w' => (∃ r : Int, e = .returned (.int .i64 r) ∧ 0 ≤ r ∧ r ≤ 4) ∧ w = w' := by
  have h0 : 0 ≤ IntKind.u64.wrap n := by rw [IntKind.wrap_u64]; omega
  have h1 : 0 ≤ (IntKind.u64.wrap n).tmod 5 ∧ (IntKind.u64.wrap n).tmod 5 < 5 := by rw [Int.tmod_eq_emod_of_nonneg h0]; omega
  go_enter Tryz.func34, Tryz.ntmps34
  go_wp2
  go_ret
  refine ⟨⟨_, rfl, ?_, ?_⟩, rfl⟩ <;> first | omega | trace_state

set_option maxHeartbeats 400000 in
theorem fit_1_4 (n : Int) (w : World) : Calls Tryz.prog 34 #[.int .i64 n, .int .i64 1, .int .i64 4] w fun e w' => (∃ r : Int, e = .returned (.int .i64 r) ∧ 1 ≤ r ∧ r ≤ 4) ∧ w = w' := by
  have h0 : 0 ≤ IntKind.u64.wrap n := by rw [IntKind.wrap_u64]; omega
  have h1 : 0 ≤ (IntKind.u64.wrap n).tmod 4 ∧ (IntKind.u64.wrap n).tmod 4 < 4 := by rw [Int.tmod_eq_emod_of_nonneg h0]; omega
  go_enter Tryz.func34, Tryz.ntmps34
  go_wp2
  go_ret
  refine ⟨⟨_, rfl, ?_, ?_⟩, rfl⟩ <;> first | omega | trace_state

set_option maxHeartbeats 400000 in
theorem fit_1_40 (n : Int) (w : World) : Calls Tryz.prog 34 #[.int .i64 n, .int .i64 1, .int .i64 40] w fun e w' => (∃ r : Int, e = .returned (.int .i64 r) ∧ 1 ≤ r ∧ r ≤ 40) ∧ w = w' := by
  have h0 : 0 ≤ IntKind.u64.wrap n := by rw [IntKind.wrap_u64]; omega
  have h1 : 0 ≤ (IntKind.u64.wrap n).tmod 40 ∧ (IntKind.u64.wrap n).tmod 40 < 40 := by rw [Int.tmod_eq_emod_of_nonneg h0]; omega
  go_enter Tryz.func34, Tryz.ntmps34
  go_wp2
  go_ret
  refine ⟨⟨_, rfl, ?_, ?_⟩, rfl⟩ <;> first | omega | trace_state

set_option maxHeartbeats 400000 in
theorem fit_0_6 (n : Int) (w : World) : Calls Tryz.prog 34 #[.int .i64 n, .int .i64 0, .int .i64 6] w fun e w' => (∃ r : Int, e = .returned (.int .i64 r) ∧ 0 ≤ r ∧ r ≤ 6) ∧ w = w' := by
  have h0 : 0 ≤ IntKind.u64.wrap n := by rw [IntKind.wrap_u64]; omega
  have h1 : 0 ≤ (IntKind.u64.wrap n).tmod 7 ∧ (IntKind.u64.wrap n).tmod 7 < 7 := by rw [Int.tmod_eq_emod_of_nonneg h0]; omega
  go_enter Tryz.func34, Tryz.ntmps34
  go_wp2
  go_ret
  refine ⟨⟨_, rfl, ?_, ?_⟩, rfl⟩ <;> first | omega | trace_state

theorem cfg_stored6 {w : World} {B : Nat} {s a c d g k : Int} (h : IsCfg w B s a c d g k) (s' a' c' d' g' k' : Int) :
    IsCfg ((((((w.setCell ⟨B, 0, none⟩ (.int .i64 s')).setCell ⟨B, 1, none⟩ (.int .i64 a')).setCell ⟨B, 2, none⟩ (.int .i64 c')).setCell ⟨B, 3, none⟩ (.int .i64 d')).setCell ⟨B, 4, none⟩ (.int .i64 g')).setCell ⟨B, 5, none⟩ (.int .i64 k')) B s' a' c' d' g' k' :=
  Mm.heap_setCell_at (Mm.heap_setCell_at (Mm.heap_setCell_at (Mm.heap_setCell_at (Mm.heap_setCell_at (Mm.heap_setCell_at h _) _) _) _) _) _
theorem below_stored6 {B : Nat} {w0 w : World} {r : Nat} (h : Below B w0 w) (hr : B ≤ r) (v0 v1 v2 v3 v4 v5 : Value) :
    Below B w0 ((((((w.setCell ⟨r, 0, none⟩ v0).setCell ⟨r, 1, none⟩ v1).setCell ⟨r, 2, none⟩ v2).setCell ⟨r, 3, none⟩ v3).setCell ⟨r, 4, none⟩ v4).setCell ⟨r, 5, none⟩ v5) :=
  (((((h.setCell (p := ⟨r, 0, none⟩) hr v0).setCell (p := ⟨r, 1, none⟩) hr v1).setCell (p := ⟨r, 2, none⟩) hr v2).setCell (p := ⟨r, 3, none⟩) hr v3).setCell (p := ⟨r, 4, none⟩) hr v4).setCell (p := ⟨r, 5, none⟩) hr v5
theorem IsCfg.free {w : World} {B : Nat} {s a c d g k : Int} (x : IsCfg w B s a c d g k) (i : Nat) : w.frozen? ⟨B, i, none⟩ = false := by
  have x' : w.heap[B]? = _ := x
  simp [World.frozen?, x']

theorem cfg_cells_kept {w : World} {B R : Nat} {s a c d g k : Int} (h : IsCfg w B s a c d g k) (hne : B ≠ R) {v0 v1 v2 v3 v4 v5 : Value} :
    ((((((w.setCell ⟨R, 0, none⟩ v0).setCell ⟨R, 1, none⟩ v1).setCell ⟨R, 2, none⟩ v2).setCell ⟨R, 3, none⟩ v3).setCell ⟨R, 4, none⟩ v4).setCell ⟨R, 5, none⟩ v5).drew.cell? ⟨B, 0, none⟩ = some (.int .i64 s) ∧ ((((((w.setCell ⟨R, 0, none⟩ v0).setCell ⟨R, 1, none⟩ v1).setCell ⟨R, 2, none⟩ v2).setCell ⟨R, 3, none⟩ v3).setCell ⟨R, 4, none⟩ v4).setCell ⟨R, 5, none⟩ v5).drew.cell? ⟨B, 1, none⟩ = some (.int .i64 a) ∧ ((((((w.setCell ⟨R, 0, none⟩ v0).setCell ⟨R, 1, none⟩ v1).setCell ⟨R, 2, none⟩ v2).setCell ⟨R, 3, none⟩ v3).setCell ⟨R, 4, none⟩ v4).setCell ⟨R, 5, none⟩ v5).drew.cell? ⟨B, 2, none⟩ = some (.int .i64 c) ∧ ((((((w.setCell ⟨R, 0, none⟩ v0).setCell ⟨R, 1, none⟩ v1).setCell ⟨R, 2, none⟩ v2).setCell ⟨R, 3, none⟩ v3).setCell ⟨R, 4, none⟩ v4).setCell ⟨R, 5, none⟩ v5).drew.cell? ⟨B, 3, none⟩ = some (.int .i64 d) ∧ ((((((w.setCell ⟨R, 0, none⟩ v0).setCell ⟨R, 1, none⟩ v1).setCell ⟨R, 2, none⟩ v2).setCell ⟨R, 3, none⟩ v3).setCell ⟨R, 4, none⟩ v4).setCell ⟨R, 5, none⟩ v5).drew.cell? ⟨B, 4, none⟩ = some (.int .i64 g) ∧ ((((((w.setCell ⟨R, 0, none⟩ v0).setCell ⟨R, 1, none⟩ v1).setCell ⟨R, 2, none⟩ v2).setCell ⟨R, 3, none⟩ v3).setCell ⟨R, 4, none⟩ v4).setCell ⟨R, 5, none⟩ v5).drew.cell? ⟨B, 5, none⟩ = some (.int .i64 k) :=
  ((cfg_stored (cfg_stored (cfg_stored (cfg_stored (cfg_stored (cfg_stored h hne v0) hne v1) hne v2) hne v3) hne v4) hne v5).below (Below.refl _ _).drew).cells

set_option maxHeartbeats 4000000 in
theorem Fit_any (s a c d g k : Int) (w : World) : Calls Tryz.prog 8 #[.agg (cs s a c d g k)] w fun e w' => (∃ s a c d g k : Int, e = .returned (.agg (cs s a c d g k)) ∧ (1 ≤ s ∧ s ≤ 12) ∧ (0 ≤ a ∧ a ≤ 4) ∧ (1 ≤ c ∧ c ≤ 4) ∧ (1 ≤ d ∧ d ≤ 4) ∧ (1 ≤ g ∧ g ≤ 40) ∧ (0 ≤ k ∧ k ≤ 6)) ∧ Below w.heap.size w w' := by
  have f1 := fit_1_12 s
  have f2 := fit_0_4 a
  have f3 := fit_1_4 c
  have f4 := fit_1_4 d
  have f5 := fit_1_40 g
  have f6 := fit_0_6 k
  have bel := alloc_below w (.cells #[.int .i64 s, .int .i64 a, .int .i64 c, .int .i64 d, .int .i64 g, .int .i64 k] 23)
  have hh := cfg_new w s a c d g k
  go_enter Tryz.func8, Tryz.ntmps8
  go_upto_region 1 with fail
  have hz : (w.alloc (.cells #[.int .i64 s, .int .i64 a, .int .i64 c, .int .i64 d, .int .i64 g, .int .i64 k] 23)).heap.size = w.heap.size + 1 := by simp
  generalize w.alloc (.cells #[.int .i64 s, .int .i64 a, .int .i64 c, .int .i64 d, .int .i64 g, .int .i64 k] 23) = w1 at *
  have h2 : IsCfg (w1.alloc (.cells #[.int .i64 0, .int .i64 0, .int .i64 0, .int .i64 0, .int .i64 0, .int .i64 0] 23)) w1.heap.size 0 0 0 0 0 0 := cfg_new w1 0 0 0 0 0 0
  have b0 := alloc_below w1 (.cells #[.int .i64 0, .int .i64 0, .int .i64 0, .int .i64 0, .int .i64 0, .int .i64 0] 23)
  generalize w1.alloc (.cells #[.int .i64 0, .int .i64 0, .int .i64 0, .int .i64 0, .int .i64 0, .int .i64 0] 23) = w2 at *
  rw [hz] at h2
  have hh2 := hh.below b0
  replace hh := (hh.below b0).below (Below.refl w2.heap.size w2).drew
  replace bel := seq_below bel b0
  have t2 := h2.cells
  have t3 := h2.free
  have t1 := hh.cells
  have hneq : w.heap.size ≠ w.heap.size + 1 := by omega
  obtain ⟨x0, x1, x2, x3, x4, x5⟩ := t2
  have y0 := t3 0
  have y1 := t3 1
  have y2 := t3 2
  have y3 := t3 3
  have y4 := t3 4
  have y5 := t3 5
  clear b0 hz t3
  go_region_held (fun w' => w'.cell? ⟨w.heap.size, 0, none⟩ = some (.int .i64 s) ∧ w'.cell? ⟨w.heap.size, 1, none⟩ = some (.int .i64 a) ∧ w'.cell? ⟨w.heap.size, 2, none⟩ = some (.int .i64 c) ∧ w'.cell? ⟨w.heap.size, 3, none⟩ = some (.int .i64 d) ∧ w'.cell? ⟨w.heap.size, 4, none⟩ = some (.int .i64 g) ∧ w'.cell? ⟨w.heap.size, 5, none⟩ = some (.int .i64 k)) (first | with_reducible exact t1 | with_reducible exact cfg_cells_kept hh hneq | with_reducible exact cfg_cells_kept hh2 hneq) (first
    | (go_at_call 34; with_reducible refine (f1 _).mono ?_; rintro e wx ⟨⟨s', rfl, s1, s2⟩, rfl⟩)
    | (go_at_call 34; with_reducible refine (f2 _).mono ?_; rintro e wx ⟨⟨a', rfl, a1, a2⟩, rfl⟩)
    | (go_at_call 34; with_reducible refine (f3 _).mono ?_; rintro e wx ⟨⟨c', rfl, c1, c2⟩, rfl⟩)
    | (go_at_call 34; with_reducible refine (f4 _).mono ?_; rintro e wx ⟨⟨d', rfl, d1, d2⟩, rfl⟩)
    | (go_at_call 34; with_reducible refine (f5 _).mono ?_; rintro e wx ⟨⟨g', rfl, g1, g2⟩, rfl⟩)
    | (go_at_call 34; with_reducible refine (f6 _).mono ?_; rintro e wx ⟨⟨k', rfl, k1, k2⟩, rfl⟩))
  have z := ((cfg_stored6 h2 s' a' c' d' g' k').below (Below.refl _ _).drew).cells
  have bel9 := (below_stored6 bel (by omega : w.heap.size ≤ w.heap.size + 1) (.int .i64 s') (.int .i64 a') (.int .i64 c') (.int .i64 d') (.int .i64 g') (.int .i64 k')).drew
  clear f1 f2 f3 f4 f5 f6 t1 x0 x1 x2 x3 x4 x5 y0 y1 y2 y3 y4 y5 hh hh2 h2 bel
  generalize ((((((w2.setCell ⟨w.heap.size + 1, 0, none⟩ (.int .i64 s')).setCell ⟨w.heap.size + 1, 1, none⟩ (.int .i64 a')).setCell ⟨w.heap.size + 1, 2, none⟩ (.int .i64 c')).setCell ⟨w.heap.size + 1, 3, none⟩ (.int .i64 d')).setCell ⟨w.heap.size + 1, 4, none⟩ (.int .i64 g')).setCell ⟨w.heap.size + 1, 5, none⟩ (.int .i64 k')).drew = w9 at *
  obtain ⟨z0, z1, z2, z3, z4, z5⟩ := z
  go_wp2
  refine bodyPost_ret (v := .agg #[.int .i64 s', .int .i64 a', .int .i64 c', .int .i64 d', .int .i64 g', .int .i64 k']) (by simp [results, Tryz.results8, go_sem, z0, z1, z2, z3, z4, z5]) rfl ?_
  exact ⟨⟨s', a', c', d', g', k', rfl, ⟨s1, s2⟩, ⟨a1, a2⟩, ⟨c1, c2⟩, ⟨d1, d2⟩, ⟨g1, g2⟩, ⟨k1, k2⟩⟩, bel9⟩
end Go.Proofs.YtcioomopgdhlmaaGreatDoor
