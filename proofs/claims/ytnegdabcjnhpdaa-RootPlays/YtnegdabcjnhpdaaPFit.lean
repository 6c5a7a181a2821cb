/- Contracts of the reference's fit and Fit: a config made right. -/
import Derived.Test.YtnegdabcjnhpdaaRHeap
import Derived.Deep.RegionHeld
namespace Go.Proofs.Ytnegdabcjnhpdaa
open Go.RowKit
open Mm (Only)

theorem cfg_stored6 {w : World} {B : Nat} {s a c d g k : Int} (h : IsCfg w B s a c d g k) (s' a' c' d' g' k' : Int) :
    IsCfg ((((((w.setCell ⟨B, 0, none⟩ (.int .i64 s')).setCell ⟨B, 1, none⟩ (.int .i64 a')).setCell ⟨B, 2, none⟩ (.int .i64 c')).setCell ⟨B, 3, none⟩ (.int .i64 d')).setCell ⟨B, 4, none⟩ (.int .i64 g')).setCell ⟨B, 5, none⟩ (.int .i64 k')) B s' a' c' d' g' k' :=
  Mm.heap_setCell_at (Mm.heap_setCell_at (Mm.heap_setCell_at (Mm.heap_setCell_at (Mm.heap_setCell_at (Mm.heap_setCell_at h _) _) _) _) _) _
theorem below_stored6 {B : Nat} {w0 w : World} {r : Nat} (h : Below B w0 w) (hr : B ≤ r) (v0 v1 v2 v3 v4 v5 : Value) :
    Below B w0 ((((((w.setCell ⟨r, 0, none⟩ v0).setCell ⟨r, 1, none⟩ v1).setCell ⟨r, 2, none⟩ v2).setCell ⟨r, 3, none⟩ v3).setCell ⟨r, 4, none⟩ v4).setCell ⟨r, 5, none⟩ v5) :=
  (((((h.setCell (p := ⟨r, 0, none⟩) hr v0).setCell (p := ⟨r, 1, none⟩) hr v1).setCell (p := ⟨r, 2, none⟩) hr v2).setCell (p := ⟨r, 3, none⟩) hr v3).setCell (p := ⟨r, 4, none⟩) hr v4).setCell (p := ⟨r, 5, none⟩) hr v5
theorem IsCfg.free {w : World} {B : Nat} {s a c d g k : Int} (x : IsCfg w B s a c d g k) (i : Nat) : w.frozen? ⟨B, i, none⟩ = false := by
  have x' : w.heap[B]? = _ := x
  simp [World.frozen?, x']

theorem cfg_cells_kept {w : World} {B R : Nat} {s a c d g k : Int} (h : IsCfg w B s a c d g k) (hne : B ≠ R) {v0 v1 v2 v3 v4 v5 : Value} :
    ((((((w.setCell ⟨R, 0, none⟩ v0).setCell ⟨R, 1, none⟩ v1).setCell ⟨R, 2, none⟩ v2).setCell ⟨R, 3, none⟩ v3).setCell ⟨R, 4, none⟩ v4).setCell ⟨R, 5, none⟩ v5).drew.cell? ⟨B, 0, none⟩ = some (.int .i64 s) ∧ ((((((w.setCell ⟨R, 0, none⟩ v0).setCell ⟨R, 1, none⟩ v1).setCell ⟨R, 2, none⟩ v2).setCell ⟨R, 3, none⟩ v3).setCell ⟨R, 4, none⟩ v4).setCell ⟨R, 5, none⟩ v5).drew.cell? ⟨B, 1, none⟩ = some (.int .i64 a) ∧ ((((((w.setCell ⟨R, 0, none⟩ v0).setCell ⟨R, 1, none⟩ v1).setCell ⟨R, 2, none⟩ v2).setCell ⟨R, 3, none⟩ v3).setCell ⟨R, 4, none⟩ v4).setCell ⟨R, 5, none⟩ v5).drew.cell? ⟨B, 2, none⟩ = some (.int .i64 c) ∧ ((((((w.setCell ⟨R, 0, none⟩ v0).setCell ⟨R, 1, none⟩ v1).setCell ⟨R, 2, none⟩ v2).setCell ⟨R, 3, none⟩ v3).setCell ⟨R, 4, none⟩ v4).setCell ⟨R, 5, none⟩ v5).drew.cell? ⟨B, 3, none⟩ = some (.int .i64 d) ∧ ((((((w.setCell ⟨R, 0, none⟩ v0).setCell ⟨R, 1, none⟩ v1).setCell ⟨R, 2, none⟩ v2).setCell ⟨R, 3, none⟩ v3).setCell ⟨R, 4, none⟩ v4).setCell ⟨R, 5, none⟩ v5).drew.cell? ⟨B, 4, none⟩ = some (.int .i64 g) ∧ ((((((w.setCell ⟨R, 0, none⟩ v0).setCell ⟨R, 1, none⟩ v1).setCell ⟨R, 2, none⟩ v2).setCell ⟨R, 3, none⟩ v3).setCell ⟨R, 4, none⟩ v4).setCell ⟨R, 5, none⟩ v5).drew.cell? ⟨B, 5, none⟩ = some (.int .i64 k) :=
  ((cfg_stored (cfg_stored (cfg_stored (cfg_stored (cfg_stored (cfg_stored h hne v0) hne v1) hne v2) hne v3) hne v4) hne v5).below (Below.refl _ _).drew).cells

end Go.Proofs.Ytnegdabcjnhpdaa
