/- The law's small heap. -/
import Derived.Test.YtcioomopgdhlmaaGreatDoorCMa
import Derived.Test.YtcioomopgdhlmaaGreatDoorBLaid
import Derived.Deep.RegionHeld3
namespace Go.Proofs.YtcioomopgdhlmaaGreatDoor
open Go.RowKit
open Mm (IsMem MS touched Only IsWords)
open Hh (WT okW wordOf IsHd)

theorem K4_N : K4.N = 28 := by decide
structure Sm (w wr : World) (bA bB bC : Nat) (c : Array Value) : Prop where
  ra : wr.heap[bA]? = some (.cells c 23 (0, 0))
  cf : wr.heap[bB]? = some (.cells #[.int .i64 4, .int .i64 1, .int .i64 1, .int .i64 1, .int .i64 9, .int .i64 0] 23 (0, 0))
  hd : wr.heap[bC]? = some (.cells #[.int .i64 1, .int .i64 0, .bool false, .int .i64 1, .int .i64 0, .int .i64 0] 57 (0, 0))
  bel : Below w.heap.size w wr
  ne : bB ≠ bA ∧ bC ≠ bA
  nA : w.heap.size ≤ bA
theorem Sm.below {w wr w' : World} {bA bB bC : Nat} {c : Array Value} (h : Sm w wr bA bB bC c) (k : Below wr.heap.size wr w') : Sm w w' bA bB bC c :=
  ⟨(k.block _ (lt_of_block h.ra)).trans h.ra, (k.block _ (lt_of_block h.cf)).trans h.cf, (k.block _ (lt_of_block h.hd)).trans h.hd, seq_below h.bel k, h.ne, h.nA⟩
theorem Sm.ltR {w wr : World} {bA bB bC : Nat} {c : Array Value} (h : Sm w wr bA bB bC c) {R : Nat} (hR : wr.heap.size ≤ R) : R ≠ bA ∧ w.heap.size < R := by
  have h1 := lt_of_block h.ra
  have h2 := h.nA
  omega
theorem Sm.rd {w wr : World} {bA bB bC : Nat} {c : Array Value} (h : Sm w wr bA bB bC c) : wr.cell? ⟨bB, 0, none⟩ = some (.int .i64 4) ∧ wr.cell? ⟨bB, 1, none⟩ = some (.int .i64 1) ∧ wr.cell? ⟨bB, 2, none⟩ = some (.int .i64 1) ∧ wr.cell? ⟨bB, 3, none⟩ = some (.int .i64 1) ∧ wr.cell? ⟨bB, 4, none⟩ = some (.int .i64 9) ∧ wr.cell? ⟨bB, 5, none⟩ = some (.int .i64 0) ∧ wr.cell? ⟨bC, 0, none⟩ = some (.int .i64 1) ∧ wr.cell? ⟨bC, 1, none⟩ = some (.int .i64 0) ∧ wr.cell? ⟨bC, 2, none⟩ = some (.bool false) ∧ wr.cell? ⟨bC, 3, none⟩ = some (.int .i64 1) ∧ wr.cell? ⟨bC, 4, none⟩ = some (.int .i64 0) ∧ wr.cell? ⟨bC, 5, none⟩ = some (.int .i64 0) := by
  refine ⟨?_, ?_, ?_, ?_, ?_, ?_, ?_, ?_, ?_, ?_, ?_, ?_⟩ <;> simp [World.cell?, h.cf, h.hd]
theorem Sm.ac {w wr : World} {bA bB bC : Nat} {x0 x1 x2 x3 x4 x5 : Value} (h : Sm w wr bA bB bC #[x0, x1, x2, x3, x4, x5]) : wr.cell? ⟨bA, 0, none⟩ = some x0 ∧ wr.cell? ⟨bA, 1, none⟩ = some x1 ∧ wr.cell? ⟨bA, 2, none⟩ = some x2 ∧ wr.cell? ⟨bA, 3, none⟩ = some x3 ∧ wr.cell? ⟨bA, 4, none⟩ = some x4 ∧ wr.cell? ⟨bA, 5, none⟩ = some x5 ∧ ∀ i, wr.frozen? ⟨bA, i, none⟩ = false := by
  refine ⟨?_, ?_, ?_, ?_, ?_, ?_, fun i => by simp [World.frozen?, h.ra]⟩ <;> simp [World.cell?, h.ra]
theorem Sm.set1 {w wr : World} {bA bB bC R : Nat} {c : Array Value} {X : List Nat} (h : Sm w wr bA bB bC c) (hR : IsWords wr R X) (hRA : R ≠ bA) (i : Nat) (v : Value) : Sm w (wr.setCell ⟨bA, i, none⟩ v) bA bB bC (c.setIfInBounds i v) ∧ IsWords (wr.setCell ⟨bA, i, none⟩ v) R X := by
  have kb : ∀ j, j ≠ bA → (wr.setCell ⟨bA, i, none⟩ v).heap[j]? = wr.heap[j]? := fun j hj => Below.heap_setCell _ _ _ _ (fun e => hj e)
  exact ⟨⟨Mm.heap_setCell_at h.ra v, (kb _ h.ne.1).trans h.cf, (kb _ h.ne.2).trans h.hd, h.bel.setCell h.nA _, h.ne, h.nA⟩, (kb _ hRA).trans hR⟩
theorem Sm.store {w wr : World} {bA bB bC R : Nat} {x0 x1 x2 x3 x4 x5 : Value} {X : List Nat} (h : Sm w wr bA bB bC #[x0, x1, x2, x3, x4, x5]) (hR : IsWords wr R X) (hRA : R ≠ bA) (v0 v1 v2 v3 v4 v5 : Value) : Sm w ((((((wr.setCell ⟨bA, 0, none⟩ v0).setCell ⟨bA, 1, none⟩ v1).setCell ⟨bA, 2, none⟩ v2).setCell ⟨bA, 3, none⟩ v3).setCell ⟨bA, 4, none⟩ v4).setCell ⟨bA, 5, none⟩ v5) bA bB bC #[v0, v1, v2, v3, v4, v5] ∧ IsWords ((((((wr.setCell ⟨bA, 0, none⟩ v0).setCell ⟨bA, 1, none⟩ v1).setCell ⟨bA, 2, none⟩ v2).setCell ⟨bA, 3, none⟩ v3).setCell ⟨bA, 4, none⟩ v4).setCell ⟨bA, 5, none⟩ v5) R X := by
  obtain ⟨a0, r0⟩ := h.set1 hR hRA 0 v0
  obtain ⟨a1, r1⟩ := a0.set1 r0 hRA 1 v1
  obtain ⟨a2, r2⟩ := a1.set1 r1 hRA 2 v2
  obtain ⟨a3, r3⟩ := a2.set1 r2 hRA 3 v3
  obtain ⟨a4, r4⟩ := a3.set1 r3 hRA 4 v4
  exact a4.set1 r4 hRA 5 v5
theorem sm_rdv {w : World} {B1 B2 Q : Nat} (h1 : w.heap[B1]? = some (.cells #[.int .u64 2] 26 (0, 0))) (h2 : w.heap[B2]? = some (.cells #[.int .u64 3, .int .u64 1, .int .u64 0] 26 (0, 0))) (hq : w.heap[Q]? = some (.cells #[.int .i64 1, .int .i64 0, .bool false, .int .i64 1, .int .i64 0, .int .i64 0, .slice (some ⟨B1, 0, none⟩) 1 1, .int .i64 2, .int .i64 0, .bool false, .int .i64 0, .int .i64 0, .int .i64 0, .slice (some ⟨B2, 0, none⟩) 3 3, .int .i64 1, .int .i64 0, .bool false, .int .i64 1, .int .i64 0, .int .i64 0, .slice none 0 0, .int .i64 1, .int .i64 0, .bool false, .int .i64 1, .int .i64 0, .int .i64 0, .slice none 0 0] 66 (0, 0))) : RdV w (some ⟨Q, 0, none⟩) 4 awZ := by
  intro i hi
  have hc : i = 0 ∨ i = 1 ∨ i = 2 ∨ i = 3 := by omega
  rcases hc with rfl | rfl | rfl | rfl
  · refine ⟨Q, 0, rfl, lt_of_block hq, ?_, some ⟨B1, 0, none⟩, 1, ?_, by show 1 < _; omega, fun j hj => ⟨B1, 0, rfl, lt_of_block h1, ?_, by show 2 < _; omega⟩⟩
    · simp [World.cell?, hq, awZ]
    · simp [World.cell?, hq, awZ]
    · obtain rfl : j = 0 := by have : j < 1 := hj; omega
      simp [World.cell?, h1, awZ]
  · refine ⟨Q, 0, rfl, lt_of_block hq, ?_, some ⟨B2, 0, none⟩, 3, ?_, by show 3 < _; omega, fun j hj => ⟨B2, 0, rfl, lt_of_block h2, ?_, ?_⟩⟩
    · simp [World.cell?, hq, awZ]
    · simp [World.cell?, hq, awZ]
    · have hj3 : j < 3 := hj
      have hc : j = 0 ∨ j = 1 ∨ j = 2 := by omega
      rcases hc with rfl | rfl | rfl <;> simp [World.cell?, h2, awZ]
    · show (if j = 0 then 3 else if j = 1 then 1 else 0) < _
      split <;> (try split) <;> omega
  · refine ⟨Q, 0, rfl, lt_of_block hq, ?_, none, 0, ?_, by show 0 < _; omega, fun j hj => absurd hj (by show ¬ j < 0; omega)⟩
    · simp [World.cell?, hq, awZ]
    · simp [World.cell?, hq, awZ]
  · refine ⟨Q, 0, rfl, lt_of_block hq, ?_, none, 0, ?_, by show 0 < _; omega, fun j hj => absurd hj (by show ¬ j < 0; omega)⟩
    · simp [World.cell?, hq, awZ]
    · simp [World.cell?, hq, awZ]
theorem sm_laid {w : World} (hw : WT w) {B1 B2 B3 Q : Nat} (h1 : w.heap[B1]? = some (.cells #[.int .u64 2] 26 (0, 0))) (h2 : w.heap[B2]? = some (.cells #[.int .u64 3, .int .u64 1, .int .u64 0] 26 (0, 0))) (h3 : w.heap[B3]? = some (.cells #[.int .u64 1] 26 (0, 0))) (hq : w.heap[Q]? = some (.cells #[.int .i64 1, .int .i64 0, .bool false, .int .i64 1, .int .i64 0, .int .i64 0, .slice (some ⟨B1, 0, none⟩) 1 1, .int .i64 2, .int .i64 0, .bool false, .int .i64 0, .int .i64 0, .int .i64 0, .slice (some ⟨B2, 0, none⟩) 3 3, .int .i64 1, .int .i64 0, .bool false, .int .i64 1, .int .i64 0, .int .i64 0, .slice none 0 0, .int .i64 1, .int .i64 0, .bool false, .int .i64 1, .int .i64 0, .int .i64 0, .slice none 0 0] 66 (0, 0))) :
    Calls Tryz.prog 9 #[.agg #[.int .i64 4, .int .i64 1, .int .i64 1, .int .i64 1, .int .i64 9, .int .i64 0], .slice (some ⟨Q, 0, none⟩) 4 4, .slice (some ⟨B3, 0, none⟩) 1 1, .slice none 0 0] w fun r w' => ∃ R, r = .returned (.slice (some ⟨R, 0, none⟩) 28 28) ∧ IsWords w' R awX ∧ w.heap.size ≤ R ∧ Below w.heap.size w w' := by
  have hr : RdU w (some ⟨B3, 0, none⟩) 1 (fun _ => 1) := by
    intro i hi
    obtain rfl : i = 0 := by omega
    exact ⟨B3, 0, rfl, lt_of_block h3, by simp [World.cell?, h3], by show 1 < _; omega⟩
  have hv : RdU w none 0 (fun _ => 0) := fun i hi => absurd hi (by omega)
  have q := laid_any K4_ok (cap := 4) (rcap := 1) (vcap := 0) (sm_rdv h1 h2 hq) hr hv (by omega) (by omega) (by omega) hw
  rw [K4_N] at q
  exact q.mono fun r w' ⟨R, h1, h2, _, h4, h5⟩ => ⟨R, h1, h2, by omega, h5⟩

theorem sm_start (w : World) : Sm w (((w.alloc (.cells #[.int .i64 0, .int .i64 0, .int .i64 0, .int .i64 0, .int .i64 0, .int .i64 0] 23)).alloc (.cells #[.int .i64 4, .int .i64 1, .int .i64 1, .int .i64 1, .int .i64 9, .int .i64 0] 23)).alloc (.cells #[.int .i64 1, .int .i64 0, .bool false, .int .i64 1, .int .i64 0, .int .i64 0] 57)) w.heap.size (w.heap.size + 1) (w.heap.size + 1 + 1) #[.int .i64 0, .int .i64 0, .int .i64 0, .int .i64 0, .int .i64 0, .int .i64 0] := by
  have h1 := new_obj w (.cells #[.int .i64 0, .int .i64 0, .int .i64 0, .int .i64 0, .int .i64 0, .int .i64 0] 23)
  have b1 := alloc_below w (.cells #[.int .i64 0, .int .i64 0, .int .i64 0, .int .i64 0, .int .i64 0, .int .i64 0] 23)
  have e1 : (w.alloc (.cells #[.int .i64 0, .int .i64 0, .int .i64 0, .int .i64 0, .int .i64 0, .int .i64 0] 23)).heap.size = w.heap.size + 1 := by simp
  generalize w.alloc (.cells #[.int .i64 0, .int .i64 0, .int .i64 0, .int .i64 0, .int .i64 0, .int .i64 0] 23) = w1 at *
  have h2 := new_obj w1 (.cells #[.int .i64 4, .int .i64 1, .int .i64 1, .int .i64 1, .int .i64 9, .int .i64 0] 23)
  have b2 := alloc_below w1 (.cells #[.int .i64 4, .int .i64 1, .int .i64 1, .int .i64 1, .int .i64 9, .int .i64 0] 23)
  have e2 : (w1.alloc (.cells #[.int .i64 4, .int .i64 1, .int .i64 1, .int .i64 1, .int .i64 9, .int .i64 0] 23)).heap.size = w1.heap.size + 1 := by simp
  generalize w1.alloc (.cells #[.int .i64 4, .int .i64 1, .int .i64 1, .int .i64 1, .int .i64 9, .int .i64 0] 23) = w2 at *
  have h3 := new_obj w2 (.cells #[.int .i64 1, .int .i64 0, .bool false, .int .i64 1, .int .i64 0, .int .i64 0] 57)
  have b3 := alloc_below w2 (.cells #[.int .i64 1, .int .i64 0, .bool false, .int .i64 1, .int .i64 0, .int .i64 0] 57)
  generalize w2.alloc (.cells #[.int .i64 1, .int .i64 0, .bool false, .int .i64 1, .int .i64 0, .int .i64 0] 57) = w3 at *
  rw [e1] at h2
  rw [e2, e1] at h3
  exact ⟨(b3.block _ (by rw [e2, e1]; omega)).trans ((b2.block _ (by rw [e1]; omega)).trans h1), (b3.block _ (by rw [e2, e1]; omega)).trans h2, h3, seq_below (seq_below b1 b2) b3, by omega, by omega⟩
set_option maxRecDepth 100000 in
set_option maxHeartbeats 16000000 in
theorem small_any (w : World) (hw : WT w) : Calls Tryz.prog 11 #[] w fun r w' => ∃ R, r = .returned (.tuple #[.agg #[.int .i64 4, .int .i64 1, .int .i64 1, .int .i64 1, .int .i64 9, .int .i64 0], .slice (some ⟨R, 0, none⟩) 28 28]) ∧ IsWords w' R awX ∧ w.heap.size < R ∧ Below w.heap.size w w' := by
  have is := sm_start w
  replace hw := hid1 hw
  have HS := hid1 (fun (wq : World) (c : Array Value) (h : Sm w wq w.heap.size (w.heap.size + 1) (w.heap.size + 1 + 1) c) => h.rd)
  go_enter Tryz.func11, Tryz.ntmps11
  go_upto_region 3 with fail
  generalize World.alloc _ _ = w0 at *
  generalize hbC : w.heap.size + 1 + 1 = bC at *
  generalize hbB : w.heap.size + 1 = bB at *
  clear hbC hbB
  generalize hbA : w.heap.size = bA at is HS ⊢
  replace hbA := hid1 hbA
  replace is := is.below (Below.refl _ _).drew
  have hS0 := HS.out _ _ is
  refine wp_region_held_drew (S := fun wr => wr.cell? ⟨bB, 0, none⟩ = some (.int .i64 4) ∧ wr.cell? ⟨bB, 1, none⟩ = some (.int .i64 1) ∧ wr.cell? ⟨bB, 2, none⟩ = some (.int .i64 1) ∧ wr.cell? ⟨bB, 3, none⟩ = some (.int .i64 1) ∧ wr.cell? ⟨bB, 4, none⟩ = some (.int .i64 9) ∧ wr.cell? ⟨bB, 5, none⟩ = some (.int .i64 0) ∧ wr.cell? ⟨bC, 0, none⟩ = some (.int .i64 1) ∧ wr.cell? ⟨bC, 1, none⟩ = some (.int .i64 0) ∧ wr.cell? ⟨bC, 2, none⟩ = some (.bool false) ∧ wr.cell? ⟨bC, 3, none⟩ = some (.int .i64 1) ∧ wr.cell? ⟨bC, 4, none⟩ = some (.int .i64 0) ∧ wr.cell? ⟨bC, 5, none⟩ = some (.int .i64 0)) (by kernel_rfl) hS0 (fun hS1 => ?_)
  clear hS0
  generalize World.drew _ = w0 at *
  refine wpAnyH_take (i := 0) (oi := { dst := some 6, op := Go.Op.load 23 (Go.Operand.tmp 2), type := 23, pos := "law.go:17", after := #[], guard := none }) (v := .agg #[.int .i64 4, .int .i64 1, .int .i64 1, .int .i64 1, .int .i64 9, .int .i64 0]) rfl (by kernel_rfl) (by kernel_rfl) (by kernel_rfl) (fun _ _ _ h => h) (Or.inl ⟨by rfl, fun w hSw => by (try dsimp only at hSw); go_simp⟩) hS1 ?_
  simp only [Act.put, List.setIfInBounds_toArray, List.set_cons_zero, List.set_cons_succ]
  refine wpAnyH_take (i := 1) (oi := { dst := some 7, op := Go.Op.load 23 (Go.Operand.tmp 2), type := 23, pos := "law.go:17", after := #[], guard := none }) (v := .agg #[.int .i64 4, .int .i64 1, .int .i64 1, .int .i64 1, .int .i64 9, .int .i64 0]) rfl (by kernel_rfl) (by kernel_rfl) (by kernel_rfl) (fun _ _ _ h => h) (Or.inl ⟨by rfl, fun w hSw => by (try dsimp only at hSw); go_simp⟩) hS1 ?_
  simp only [Act.put, List.setIfInBounds_toArray, List.set_cons_zero, List.set_cons_succ]
  refine wpAnyH_take (i := 2) (oi := { dst := some 8, op := Go.Op.load 57 (Go.Operand.tmp 3), type := 57, pos := "law.go:17", after := #[], guard := none }) (v := .agg #[.int .i64 1, .int .i64 0, .bool false, .int .i64 1, .int .i64 0, .int .i64 0]) rfl (by kernel_rfl) (by kernel_rfl) (by kernel_rfl) (fun _ _ _ h => h) (Or.inl ⟨by rfl, fun w hSw => by (try dsimp only at hSw); go_simp⟩) hS1 ?_
  simp only [Act.put, List.setIfInBounds_toArray, List.set_cons_zero, List.set_cons_succ]
  refine wpAnyH_take (i := 5) (oi := { dst := some 11, op := Go.Op.build 57 #[(0, Go.Operand.const (Go.Value.int Go.IntKind.i64 2))], type := 57, pos := "law.go:17", after := #[], guard := none }) (v := .agg #[.int .i64 2, .int .i64 0, .bool false, .int .i64 0, .int .i64 0, .int .i64 0]) rfl (by kernel_rfl) (by kernel_rfl) (by kernel_rfl) (fun _ _ _ h => h) (Or.inl ⟨by rfl, fun w hSw => by (try dsimp only at hSw); go_simp⟩) hS1 ?_
  simp only [Act.put, List.setIfInBounds_toArray, List.set_cons_zero, List.set_cons_succ]
  refine wpAnyH_take (i := 8) (oi := { dst := some 14, op := Go.Op.load 57 (Go.Operand.tmp 3), type := 57, pos := "law.go:17", after := #[], guard := none }) (v := .agg #[.int .i64 1, .int .i64 0, .bool false, .int .i64 1, .int .i64 0, .int .i64 0]) rfl (by kernel_rfl) (by kernel_rfl) (by kernel_rfl) (fun _ _ _ h => h) (Or.inl ⟨by rfl, fun w hSw => by (try dsimp only at hSw); go_simp⟩) hS1 ?_
  simp only [Act.put, List.setIfInBounds_toArray, List.set_cons_zero, List.set_cons_succ]
  refine wpAnyH_take (i := 9) (oi := { dst := some 15, op := Go.Op.build 66 #[(0, Go.Operand.tmp 14)], type := 66, pos := "law.go:17", after := #[{ on := 8, ground := Go.Ground.data }], guard := none }) (v := .agg #[.int .i64 1, .int .i64 0, .bool false, .int .i64 1, .int .i64 0, .int .i64 0, .slice none 0 0]) rfl (by kernel_rfl) (by kernel_rfl) (by kernel_rfl) (fun _ _ _ h => h) (Or.inl ⟨by rfl, fun w hSw => by (try dsimp only at hSw); go_simp⟩) hS1 ?_
  simp only [Act.put, List.setIfInBounds_toArray, List.set_cons_zero, List.set_cons_succ]
  refine wpAnyH_take (i := 10) (oi := { dst := some 16, op := Go.Op.load 57 (Go.Operand.tmp 3), type := 57, pos := "law.go:17", after := #[], guard := none }) (v := .agg #[.int .i64 1, .int .i64 0, .bool false, .int .i64 1, .int .i64 0, .int .i64 0]) rfl (by kernel_rfl) (by kernel_rfl) (by kernel_rfl) (fun _ _ _ h => h) (Or.inl ⟨by rfl, fun w hSw => by (try dsimp only at hSw); go_simp⟩) hS1 ?_
  simp only [Act.put, List.setIfInBounds_toArray, List.set_cons_zero, List.set_cons_succ]
  refine wpAnyH_take (i := 11) (oi := { dst := some 17, op := Go.Op.build 66 #[(0, Go.Operand.tmp 16)], type := 66, pos := "law.go:17", after := #[{ on := 10, ground := Go.Ground.data }], guard := none }) (v := .agg #[.int .i64 1, .int .i64 0, .bool false, .int .i64 1, .int .i64 0, .int .i64 0, .slice none 0 0]) rfl (by kernel_rfl) (by kernel_rfl) (by kernel_rfl) (fun _ _ _ h => h) (Or.inl ⟨by rfl, fun w hSw => by (try dsimp only at hSw); go_simp⟩) hS1 ?_
  simp only [Act.put, List.setIfInBounds_toArray, List.set_cons_zero, List.set_cons_succ]
  refine wpAnyH_ready (rs := [3, 6, 13]) (by kernel_rfl) (by simp) (AllReadyH.cons (o := { dst := some 9, op := Go.Op.buildSlice 25 1 #[(0, Go.Operand.const (Go.Value.int Go.IntKind.u64 2))], type := 25, pos := "law.go:17", after := #[], guard := none }) rfl (fun K hK => ?_) (AllReadyH.cons (o := { dst := some 12, op := Go.Op.buildSlice 25 3 #[(0, Go.Operand.const (Go.Value.int Go.IntKind.u64 3)), (1, Go.Operand.const (Go.Value.int Go.IntKind.u64 1)), (2, Go.Operand.const (Go.Value.int Go.IntKind.u64 0))], type := 25, pos := "law.go:17", after := #[], guard := none }) rfl (fun K hK => ?_) (AllReadyH.cons (o := { dst := some 19, op := Go.Op.buildSlice 25 1 #[(0, Go.Operand.const (Go.Value.int Go.IntKind.u64 1))], type := 25, pos := "law.go:17", after := #[], guard := none }) rfl (fun K hK => ?_) AllReadyH.nil)))
  · go_simp
    have n1 := hid1 (new_obj w0 (.cells #[.int .u64 2] 26))
    replace is := is.below (alloc_below w0 (.cells #[.int .u64 2] 26))
    refine hK.out _ _ (HS.out _ _ is) (fun hS1 => ?_)
    (try simp only [Act.put, List.setIfInBounds_toArray, List.set_cons_zero, List.set_cons_succ])
    clear hK K
    generalize w0.heap.size = B1 at n1 ⊢
    generalize w0.alloc (.cells #[.int .u64 2] 26) = wa1 at *
    refine wpAnyH_take (i := 4) (oi := { dst := some 10, op := Go.Op.build 66 #[(0, Go.Operand.tmp 8), (1, Go.Operand.tmp 9)], type := 66, pos := "law.go:17", after := #[{ on := 2, ground := Go.Ground.data }, { on := 3, ground := Go.Ground.data }], guard := none }) (v := .agg #[.int .i64 1, .int .i64 0, .bool false, .int .i64 1, .int .i64 0, .int .i64 0, .slice (some ⟨B1, 0, none⟩) 1 1]) rfl (by kernel_rfl) (by kernel_rfl) (by kernel_rfl) (fun _ _ _ h => h) (Or.inl ⟨by rfl, fun w hSw => by (try dsimp only at hSw); go_simp⟩) hS1 ?_
    simp only [Act.put, List.setIfInBounds_toArray, List.set_cons_zero, List.set_cons_succ]
    refine wpAnyH_ready (rs := [6, 13]) (by kernel_rfl) (by simp) (AllReadyH.cons (o := { dst := some 12, op := Go.Op.buildSlice 25 3 #[(0, Go.Operand.const (Go.Value.int Go.IntKind.u64 3)), (1, Go.Operand.const (Go.Value.int Go.IntKind.u64 1)), (2, Go.Operand.const (Go.Value.int Go.IntKind.u64 0))], type := 25, pos := "law.go:17", after := #[], guard := none }) rfl (fun K hK => ?_) (AllReadyH.cons (o := { dst := some 19, op := Go.Op.buildSlice 25 1 #[(0, Go.Operand.const (Go.Value.int Go.IntKind.u64 1))], type := 25, pos := "law.go:17", after := #[], guard := none }) rfl (fun K hK => ?_) AllReadyH.nil))
    · go_simp
      have n2 := hid1 (new_obj wa1 (.cells #[.int .u64 3, .int .u64 1, .int .u64 0] 26))
      replace n1 := hid1 (((alloc_below wa1 (.cells #[.int .u64 3, .int .u64 1, .int .u64 0] 26)).block _ (lt_of_block n1.out)).trans n1.out)
      replace is := is.below (alloc_below wa1 (.cells #[.int .u64 3, .int .u64 1, .int .u64 0] 26))
      refine hK.out _ _ (HS.out _ _ is) (fun hS1 => ?_)
      (try simp only [Act.put, List.setIfInBounds_toArray, List.set_cons_zero, List.set_cons_succ])
      clear hK K
      generalize wa1.heap.size = B2 at n2 ⊢
      generalize wa1.alloc (.cells #[.int .u64 3, .int .u64 1, .int .u64 0] 26) = wa2 at *
      refine wpAnyH_take (i := 7) (oi := { dst := some 13, op := Go.Op.build 66 #[(0, Go.Operand.tmp 11), (1, Go.Operand.tmp 12)], type := 66, pos := "law.go:17", after := #[{ on := 5, ground := Go.Ground.data }, { on := 6, ground := Go.Ground.data }], guard := none }) (v := .agg #[.int .i64 2, .int .i64 0, .bool false, .int .i64 0, .int .i64 0, .int .i64 0, .slice (some ⟨B2, 0, none⟩) 3 3]) rfl (by kernel_rfl) (by kernel_rfl) (by kernel_rfl) (fun _ _ _ h => h) (Or.inl ⟨by rfl, fun w hSw => by (try dsimp only at hSw); go_simp⟩) hS1 ?_
      simp only [Act.put, List.setIfInBounds_toArray, List.set_cons_zero, List.set_cons_succ]
      refine wpAnyH_ready (rs := [12, 13]) (by kernel_rfl) (by simp) (AllReadyH.cons (o := { dst := some 18, op := Go.Op.buildSlice 24 4 #[(0, Go.Operand.tmp 10), (1, Go.Operand.tmp 13), (2, Go.Operand.tmp 15), (3, Go.Operand.tmp 17)], type := 24, pos := "law.go:17", after := #[{ on := 4, ground := Go.Ground.data }, { on := 7, ground := Go.Ground.data }, { on := 9, ground := Go.Ground.data }, { on := 11, ground := Go.Ground.data }], guard := none }) rfl (fun K hK => ?_) (AllReadyH.cons (o := { dst := some 19, op := Go.Op.buildSlice 25 1 #[(0, Go.Operand.const (Go.Value.int Go.IntKind.u64 1))], type := 25, pos := "law.go:17", after := #[], guard := none }) rfl (fun K hK => ?_) AllReadyH.nil))
      · go_simp
        have n4 := hid1 (new_obj wa2 (.cells #[.int .i64 1, .int .i64 0, .bool false, .int .i64 1, .int .i64 0, .int .i64 0, .slice (some ⟨B1, 0, none⟩) 1 1, .int .i64 2, .int .i64 0, .bool false, .int .i64 0, .int .i64 0, .int .i64 0, .slice (some ⟨B2, 0, none⟩) 3 3, .int .i64 1, .int .i64 0, .bool false, .int .i64 1, .int .i64 0, .int .i64 0, .slice none 0 0, .int .i64 1, .int .i64 0, .bool false, .int .i64 1, .int .i64 0, .int .i64 0, .slice none 0 0] 66))
        replace n1 := hid1 (((alloc_below wa2 (.cells #[.int .i64 1, .int .i64 0, .bool false, .int .i64 1, .int .i64 0, .int .i64 0, .slice (some ⟨B1, 0, none⟩) 1 1, .int .i64 2, .int .i64 0, .bool false, .int .i64 0, .int .i64 0, .int .i64 0, .slice (some ⟨B2, 0, none⟩) 3 3, .int .i64 1, .int .i64 0, .bool false, .int .i64 1, .int .i64 0, .int .i64 0, .slice none 0 0, .int .i64 1, .int .i64 0, .bool false, .int .i64 1, .int .i64 0, .int .i64 0, .slice none 0 0] 66)).block _ (lt_of_block n1.out)).trans n1.out)
        replace n2 := hid1 (((alloc_below wa2 (.cells #[.int .i64 1, .int .i64 0, .bool false, .int .i64 1, .int .i64 0, .int .i64 0, .slice (some ⟨B1, 0, none⟩) 1 1, .int .i64 2, .int .i64 0, .bool false, .int .i64 0, .int .i64 0, .int .i64 0, .slice (some ⟨B2, 0, none⟩) 3 3, .int .i64 1, .int .i64 0, .bool false, .int .i64 1, .int .i64 0, .int .i64 0, .slice none 0 0, .int .i64 1, .int .i64 0, .bool false, .int .i64 1, .int .i64 0, .int .i64 0, .slice none 0 0] 66)).block _ (lt_of_block n2.out)).trans n2.out)
        replace is := is.below (alloc_below wa2 (.cells #[.int .i64 1, .int .i64 0, .bool false, .int .i64 1, .int .i64 0, .int .i64 0, .slice (some ⟨B1, 0, none⟩) 1 1, .int .i64 2, .int .i64 0, .bool false, .int .i64 0, .int .i64 0, .int .i64 0, .slice (some ⟨B2, 0, none⟩) 3 3, .int .i64 1, .int .i64 0, .bool false, .int .i64 1, .int .i64 0, .int .i64 0, .slice none 0 0, .int .i64 1, .int .i64 0, .bool false, .int .i64 1, .int .i64 0, .int .i64 0, .slice none 0 0] 66))
        refine hK.out _ _ (HS.out _ _ is) (fun hS1 => ?_)
        (try simp only [Act.put, List.setIfInBounds_toArray, List.set_cons_zero, List.set_cons_succ])
        clear hK K
        generalize wa2.heap.size = Q at n4 ⊢
        generalize wa2.alloc (.cells #[.int .i64 1, .int .i64 0, .bool false, .int .i64 1, .int .i64 0, .int .i64 0, .slice (some ⟨B1, 0, none⟩) 1 1, .int .i64 2, .int .i64 0, .bool false, .int .i64 0, .int .i64 0, .int .i64 0, .slice (some ⟨B2, 0, none⟩) 3 3, .int .i64 1, .int .i64 0, .bool false, .int .i64 1, .int .i64 0, .int .i64 0, .slice none 0 0, .int .i64 1, .int .i64 0, .bool false, .int .i64 1, .int .i64 0, .int .i64 0, .slice none 0 0] 66) = wa3 at *
        refine wpAnyH_ready (rs := [13]) (by kernel_rfl) (by simp) (AllReadyH.cons (o := { dst := some 19, op := Go.Op.buildSlice 25 1 #[(0, Go.Operand.const (Go.Value.int Go.IntKind.u64 1))], type := 25, pos := "law.go:17", after := #[], guard := none }) rfl (fun K hK => ?_) AllReadyH.nil)
        go_simp
        have n3 := hid1 (new_obj wa3 (.cells #[.int .u64 1] 26))
        replace n1 := hid1 (((alloc_below wa3 (.cells #[.int .u64 1] 26)).block _ (lt_of_block n1.out)).trans n1.out)
        replace n2 := hid1 (((alloc_below wa3 (.cells #[.int .u64 1] 26)).block _ (lt_of_block n2.out)).trans n2.out)
        replace n4 := hid1 (((alloc_below wa3 (.cells #[.int .u64 1] 26)).block _ (lt_of_block n4.out)).trans n4.out)
        replace is := is.below (alloc_below wa3 (.cells #[.int .u64 1] 26))
        refine hK.out _ _ (HS.out _ _ is) (fun hS1 => ?_)
        (try simp only [Act.put, List.setIfInBounds_toArray, List.set_cons_zero, List.set_cons_succ])
        clear hK K
        generalize wa3.heap.size = B3 at n3 ⊢
        generalize wa3.alloc (.cells #[.int .u64 1] 26) = wa4 at *
        refine wpAnyH_ready (rs := [14]) (by kernel_rfl) (by simp) (AllReadyH.cons (o := { dst := some 20, op := Go.Op.call { callee := Go.Callee.value (Go.Operand.func 9), args := #[Go.Operand.tmp 7, Go.Operand.tmp 18, Go.Operand.tmp 19, Go.Operand.const (Go.Value.slice none 0 0)], argTypes := #[23, 24, 25, 25] }, type := 25, pos := "law.go:17", after := #[{ on := 1, ground := Go.Ground.data }, { on := 12, ground := Go.Ground.data }, { on := 13, ground := Go.Ground.data }], guard := none }) rfl (fun K hK => ?_) AllReadyH.nil)
        go_simp
        go_at_call 9
        with_reducible refine (sm_laid (hw.out.below is.bel) n1.out n2.out n3.out n4.out).mono ?_
        rintro r wL ⟨R, rfl, hR, hR1, b1⟩
        (try simp only [])
        have hRA := hid1 (is.ltR hR1)
        replace is := is.below b1
        clear b1 n1 n2 n3 n4 hR1
        replace hR := hid1 hR
        refine hK.out _ _ (HS.out _ _ is) (fun hS1 => ?_)
        (try simp only [Act.put, List.setIfInBounds_toArray, List.set_cons_zero, List.set_cons_succ])
        clear hK K
        refine wpAnyH_ready (rs := [15]) (by kernel_rfl) (by simp) (AllReadyH.cons (o := { dst := none, op := Go.Op.store 23 (Go.Operand.tmp 0) (Go.Operand.tmp 6), type := 0, pos := "law.go:17", after := #[{ on := 0, ground := Go.Ground.data }, { on := 14, ground := Go.Ground.chain }, { on := 0, ground := Go.Ground.phase }, { on := 1, ground := Go.Ground.textOnly Go.Departure.lateStores }, { on := 2, ground := Go.Ground.textOnly Go.Departure.lateStores }, { on := 3, ground := Go.Ground.textOnly Go.Departure.lateStores }, { on := 4, ground := Go.Ground.textOnly Go.Departure.lateStores }, { on := 5, ground := Go.Ground.textOnly Go.Departure.lateStores }, { on := 6, ground := Go.Ground.textOnly Go.Departure.lateStores }, { on := 7, ground := Go.Ground.textOnly Go.Departure.lateStores }, { on := 8, ground := Go.Ground.textOnly Go.Departure.lateStores }, { on := 9, ground := Go.Ground.textOnly Go.Departure.lateStores }, { on := 10, ground := Go.Ground.textOnly Go.Departure.lateStores }, { on := 11, ground := Go.Ground.textOnly Go.Departure.lateStores }, { on := 12, ground := Go.Ground.textOnly Go.Departure.lateStores }, { on := 13, ground := Go.Ground.textOnly Go.Departure.lateStores }, { on := 14, ground := Go.Ground.textOnly Go.Departure.lateStoresUnsure }], guard := none }) rfl (fun K hK => ?_) AllReadyH.nil)
        obtain ⟨z0, z1, z2, z3, z4, z5, zf⟩ := is.ac
        go_simp
        have st := is.store hR.out hRA.out.1 (.int .i64 4) (.int .i64 1) (.int .i64 1) (.int .i64 1) (.int .i64 9) (.int .i64 0)
        clear z0 z1 z2 z3 z4 z5 zf
        replace is := st.1
        replace hR := hid1 st.2
        clear st
        refine hK.out _ _ (HS.out _ _ is) (fun hS1 => ?_)
        (try simp only [Act.put, List.setIfInBounds_toArray, List.set_cons_zero, List.set_cons_succ])
        clear hK K
        generalize World.setCell _ _ _ = w9 at *
        refine wpAnyH_take (i := 16) (oi := { dst := some 1, op := Go.Op.assign (Go.Operand.tmp 20), type := 25, pos := "law.go:17", after := #[{ on := 14, ground := Go.Ground.data }, { on := 15, ground := Go.Ground.chain }, { on := 0, ground := Go.Ground.phase }, { on := 1, ground := Go.Ground.phase }, { on := 2, ground := Go.Ground.phase }, { on := 3, ground := Go.Ground.phase }, { on := 4, ground := Go.Ground.phase }, { on := 5, ground := Go.Ground.phase }, { on := 6, ground := Go.Ground.phase }, { on := 7, ground := Go.Ground.phase }, { on := 8, ground := Go.Ground.phase }, { on := 9, ground := Go.Ground.phase }, { on := 10, ground := Go.Ground.phase }, { on := 11, ground := Go.Ground.phase }, { on := 12, ground := Go.Ground.phase }, { on := 13, ground := Go.Ground.phase }, { on := 14, ground := Go.Ground.phase }, { on := 15, ground := Go.Ground.phase }], guard := none }) (v := .slice (some ⟨R, 0, none⟩) 28 28) rfl (by kernel_rfl) (by kernel_rfl) (by kernel_rfl) (fun _ _ _ h => h) (Or.inl ⟨by rfl, fun w hSw => by (try dsimp only at hSw); go_simp⟩) hS1 ?_
        simp only [Act.put, List.setIfInBounds_toArray, List.set_cons_zero, List.set_cons_succ]
        refine wpAnyH_done (by kernel_rfl) ?_ _
        clear hS1
        obtain ⟨z0, z1, z2, z3, z4, z5, zf⟩ := is.ac
        go_wp2
        refine bodyPost_ret (v := .tuple #[.agg #[.int .i64 4, .int .i64 1, .int .i64 1, .int .i64 1, .int .i64 9, .int .i64 0], .slice (some ⟨R, 0, none⟩) 28 28]) (by simp [results, Tryz.results11, go_sem, z0, z1, z2, z3, z4, z5]) rfl ?_
        exact ⟨R, rfl, hR.out, hRA.out.2, is.bel⟩

      · go_simp
        have n3 := hid1 (new_obj wa2 (.cells #[.int .u64 1] 26))
        replace n1 := hid1 (((alloc_below wa2 (.cells #[.int .u64 1] 26)).block _ (lt_of_block n1.out)).trans n1.out)
        replace n2 := hid1 (((alloc_below wa2 (.cells #[.int .u64 1] 26)).block _ (lt_of_block n2.out)).trans n2.out)
        replace is := is.below (alloc_below wa2 (.cells #[.int .u64 1] 26))
        refine hK.out _ _ (HS.out _ _ is) (fun hS1 => ?_)
        (try simp only [Act.put, List.setIfInBounds_toArray, List.set_cons_zero, List.set_cons_succ])
        clear hK K
        generalize wa2.heap.size = B3 at n3 ⊢
        generalize wa2.alloc (.cells #[.int .u64 1] 26) = wa5 at *
        refine wpAnyH_ready (rs := [12]) (by kernel_rfl) (by simp) (AllReadyH.cons (o := { dst := some 18, op := Go.Op.buildSlice 24 4 #[(0, Go.Operand.tmp 10), (1, Go.Operand.tmp 13), (2, Go.Operand.tmp 15), (3, Go.Operand.tmp 17)], type := 24, pos := "law.go:17", after := #[{ on := 4, ground := Go.Ground.data }, { on := 7, ground := Go.Ground.data }, { on := 9, ground := Go.Ground.data }, { on := 11, ground := Go.Ground.data }], guard := none }) rfl (fun K hK => ?_) AllReadyH.nil)
        go_simp
        have n4 := hid1 (new_obj wa5 (.cells #[.int .i64 1, .int .i64 0, .bool false, .int .i64 1, .int .i64 0, .int .i64 0, .slice (some ⟨B1, 0, none⟩) 1 1, .int .i64 2, .int .i64 0, .bool false, .int .i64 0, .int .i64 0, .int .i64 0, .slice (some ⟨B2, 0, none⟩) 3 3, .int .i64 1, .int .i64 0, .bool false, .int .i64 1, .int .i64 0, .int .i64 0, .slice none 0 0, .int .i64 1, .int .i64 0, .bool false, .int .i64 1, .int .i64 0, .int .i64 0, .slice none 0 0] 66))
        replace n1 := hid1 (((alloc_below wa5 (.cells #[.int .i64 1, .int .i64 0, .bool false, .int .i64 1, .int .i64 0, .int .i64 0, .slice (some ⟨B1, 0, none⟩) 1 1, .int .i64 2, .int .i64 0, .bool false, .int .i64 0, .int .i64 0, .int .i64 0, .slice (some ⟨B2, 0, none⟩) 3 3, .int .i64 1, .int .i64 0, .bool false, .int .i64 1, .int .i64 0, .int .i64 0, .slice none 0 0, .int .i64 1, .int .i64 0, .bool false, .int .i64 1, .int .i64 0, .int .i64 0, .slice none 0 0] 66)).block _ (lt_of_block n1.out)).trans n1.out)
        replace n2 := hid1 (((alloc_below wa5 (.cells #[.int .i64 1, .int .i64 0, .bool false, .int .i64 1, .int .i64 0, .int .i64 0, .slice (some ⟨B1, 0, none⟩) 1 1, .int .i64 2, .int .i64 0, .bool false, .int .i64 0, .int .i64 0, .int .i64 0, .slice (some ⟨B2, 0, none⟩) 3 3, .int .i64 1, .int .i64 0, .bool false, .int .i64 1, .int .i64 0, .int .i64 0, .slice none 0 0, .int .i64 1, .int .i64 0, .bool false, .int .i64 1, .int .i64 0, .int .i64 0, .slice none 0 0] 66)).block _ (lt_of_block n2.out)).trans n2.out)
        replace n3 := hid1 (((alloc_below wa5 (.cells #[.int .i64 1, .int .i64 0, .bool false, .int .i64 1, .int .i64 0, .int .i64 0, .slice (some ⟨B1, 0, none⟩) 1 1, .int .i64 2, .int .i64 0, .bool false, .int .i64 0, .int .i64 0, .int .i64 0, .slice (some ⟨B2, 0, none⟩) 3 3, .int .i64 1, .int .i64 0, .bool false, .int .i64 1, .int .i64 0, .int .i64 0, .slice none 0 0, .int .i64 1, .int .i64 0, .bool false, .int .i64 1, .int .i64 0, .int .i64 0, .slice none 0 0] 66)).block _ (lt_of_block n3.out)).trans n3.out)
        replace is := is.below (alloc_below wa5 (.cells #[.int .i64 1, .int .i64 0, .bool false, .int .i64 1, .int .i64 0, .int .i64 0, .slice (some ⟨B1, 0, none⟩) 1 1, .int .i64 2, .int .i64 0, .bool false, .int .i64 0, .int .i64 0, .int .i64 0, .slice (some ⟨B2, 0, none⟩) 3 3, .int .i64 1, .int .i64 0, .bool false, .int .i64 1, .int .i64 0, .int .i64 0, .slice none 0 0, .int .i64 1, .int .i64 0, .bool false, .int .i64 1, .int .i64 0, .int .i64 0, .slice none 0 0] 66))
        refine hK.out _ _ (HS.out _ _ is) (fun hS1 => ?_)
        (try simp only [Act.put, List.setIfInBounds_toArray, List.set_cons_zero, List.set_cons_succ])
        clear hK K
        generalize wa5.heap.size = Q at n4 ⊢
        generalize wa5.alloc (.cells #[.int .i64 1, .int .i64 0, .bool false, .int .i64 1, .int .i64 0, .int .i64 0, .slice (some ⟨B1, 0, none⟩) 1 1, .int .i64 2, .int .i64 0, .bool false, .int .i64 0, .int .i64 0, .int .i64 0, .slice (some ⟨B2, 0, none⟩) 3 3, .int .i64 1, .int .i64 0, .bool false, .int .i64 1, .int .i64 0, .int .i64 0, .slice none 0 0, .int .i64 1, .int .i64 0, .bool false, .int .i64 1, .int .i64 0, .int .i64 0, .slice none 0 0] 66) = wa6 at *
        refine wpAnyH_ready (rs := [14]) (by kernel_rfl) (by simp) (AllReadyH.cons (o := { dst := some 20, op := Go.Op.call { callee := Go.Callee.value (Go.Operand.func 9), args := #[Go.Operand.tmp 7, Go.Operand.tmp 18, Go.Operand.tmp 19, Go.Operand.const (Go.Value.slice none 0 0)], argTypes := #[23, 24, 25, 25] }, type := 25, pos := "law.go:17", after := #[{ on := 1, ground := Go.Ground.data }, { on := 12, ground := Go.Ground.data }, { on := 13, ground := Go.Ground.data }], guard := none }) rfl (fun K hK => ?_) AllReadyH.nil)
        go_simp
        go_at_call 9
        with_reducible refine (sm_laid (hw.out.below is.bel) n1.out n2.out n3.out n4.out).mono ?_
        rintro r wL ⟨R, rfl, hR, hR1, b1⟩
        (try simp only [])
        have hRA := hid1 (is.ltR hR1)
        replace is := is.below b1
        clear b1 n1 n2 n3 n4 hR1
        replace hR := hid1 hR
        refine hK.out _ _ (HS.out _ _ is) (fun hS1 => ?_)
        (try simp only [Act.put, List.setIfInBounds_toArray, List.set_cons_zero, List.set_cons_succ])
        clear hK K
        refine wpAnyH_ready (rs := [15]) (by kernel_rfl) (by simp) (AllReadyH.cons (o := { dst := none, op := Go.Op.store 23 (Go.Operand.tmp 0) (Go.Operand.tmp 6), type := 0, pos := "law.go:17", after := #[{ on := 0, ground := Go.Ground.data }, { on := 14, ground := Go.Ground.chain }, { on := 0, ground := Go.Ground.phase }, { on := 1, ground := Go.Ground.textOnly Go.Departure.lateStores }, { on := 2, ground := Go.Ground.textOnly Go.Departure.lateStores }, { on := 3, ground := Go.Ground.textOnly Go.Departure.lateStores }, { on := 4, ground := Go.Ground.textOnly Go.Departure.lateStores }, { on := 5, ground := Go.Ground.textOnly Go.Departure.lateStores }, { on := 6, ground := Go.Ground.textOnly Go.Departure.lateStores }, { on := 7, ground := Go.Ground.textOnly Go.Departure.lateStores }, { on := 8, ground := Go.Ground.textOnly Go.Departure.lateStores }, { on := 9, ground := Go.Ground.textOnly Go.Departure.lateStores }, { on := 10, ground := Go.Ground.textOnly Go.Departure.lateStores }, { on := 11, ground := Go.Ground.textOnly Go.Departure.lateStores }, { on := 12, ground := Go.Ground.textOnly Go.Departure.lateStores }, { on := 13, ground := Go.Ground.textOnly Go.Departure.lateStores }, { on := 14, ground := Go.Ground.textOnly Go.Departure.lateStoresUnsure }], guard := none }) rfl (fun K hK => ?_) AllReadyH.nil)
        obtain ⟨z0, z1, z2, z3, z4, z5, zf⟩ := is.ac
        go_simp
        have st := is.store hR.out hRA.out.1 (.int .i64 4) (.int .i64 1) (.int .i64 1) (.int .i64 1) (.int .i64 9) (.int .i64 0)
        clear z0 z1 z2 z3 z4 z5 zf
        replace is := st.1
        replace hR := hid1 st.2
        clear st
        refine hK.out _ _ (HS.out _ _ is) (fun hS1 => ?_)
        (try simp only [Act.put, List.setIfInBounds_toArray, List.set_cons_zero, List.set_cons_succ])
        clear hK K
        generalize World.setCell _ _ _ = w9 at *
        refine wpAnyH_take (i := 16) (oi := { dst := some 1, op := Go.Op.assign (Go.Operand.tmp 20), type := 25, pos := "law.go:17", after := #[{ on := 14, ground := Go.Ground.data }, { on := 15, ground := Go.Ground.chain }, { on := 0, ground := Go.Ground.phase }, { on := 1, ground := Go.Ground.phase }, { on := 2, ground := Go.Ground.phase }, { on := 3, ground := Go.Ground.phase }, { on := 4, ground := Go.Ground.phase }, { on := 5, ground := Go.Ground.phase }, { on := 6, ground := Go.Ground.phase }, { on := 7, ground := Go.Ground.phase }, { on := 8, ground := Go.Ground.phase }, { on := 9, ground := Go.Ground.phase }, { on := 10, ground := Go.Ground.phase }, { on := 11, ground := Go.Ground.phase }, { on := 12, ground := Go.Ground.phase }, { on := 13, ground := Go.Ground.phase }, { on := 14, ground := Go.Ground.phase }, { on := 15, ground := Go.Ground.phase }], guard := none }) (v := .slice (some ⟨R, 0, none⟩) 28 28) rfl (by kernel_rfl) (by kernel_rfl) (by kernel_rfl) (fun _ _ _ h => h) (Or.inl ⟨by rfl, fun w hSw => by (try dsimp only at hSw); go_simp⟩) hS1 ?_
        simp only [Act.put, List.setIfInBounds_toArray, List.set_cons_zero, List.set_cons_succ]
        refine wpAnyH_done (by kernel_rfl) ?_ _
        clear hS1
        obtain ⟨z0, z1, z2, z3, z4, z5, zf⟩ := is.ac
        go_wp2
        refine bodyPost_ret (v := .tuple #[.agg #[.int .i64 4, .int .i64 1, .int .i64 1, .int .i64 1, .int .i64 9, .int .i64 0], .slice (some ⟨R, 0, none⟩) 28 28]) (by simp [results, Tryz.results11, go_sem, z0, z1, z2, z3, z4, z5]) rfl ?_
        exact ⟨R, rfl, hR.out, hRA.out.2, is.bel⟩


    · go_simp
      have n3 := hid1 (new_obj wa1 (.cells #[.int .u64 1] 26))
      replace n1 := hid1 (((alloc_below wa1 (.cells #[.int .u64 1] 26)).block _ (lt_of_block n1.out)).trans n1.out)
      replace is := is.below (alloc_below wa1 (.cells #[.int .u64 1] 26))
      refine hK.out _ _ (HS.out _ _ is) (fun hS1 => ?_)
      (try simp only [Act.put, List.setIfInBounds_toArray, List.set_cons_zero, List.set_cons_succ])
      clear hK K
      generalize wa1.heap.size = B3 at n3 ⊢
      generalize wa1.alloc (.cells #[.int .u64 1] 26) = wa7 at *
      refine wpAnyH_ready (rs := [6]) (by kernel_rfl) (by simp) (AllReadyH.cons (o := { dst := some 12, op := Go.Op.buildSlice 25 3 #[(0, Go.Operand.const (Go.Value.int Go.IntKind.u64 3)), (1, Go.Operand.const (Go.Value.int Go.IntKind.u64 1)), (2, Go.Operand.const (Go.Value.int Go.IntKind.u64 0))], type := 25, pos := "law.go:17", after := #[], guard := none }) rfl (fun K hK => ?_) AllReadyH.nil)
      go_simp
      have n2 := hid1 (new_obj wa7 (.cells #[.int .u64 3, .int .u64 1, .int .u64 0] 26))
      replace n1 := hid1 (((alloc_below wa7 (.cells #[.int .u64 3, .int .u64 1, .int .u64 0] 26)).block _ (lt_of_block n1.out)).trans n1.out)
      replace n3 := hid1 (((alloc_below wa7 (.cells #[.int .u64 3, .int .u64 1, .int .u64 0] 26)).block _ (lt_of_block n3.out)).trans n3.out)
      replace is := is.below (alloc_below wa7 (.cells #[.int .u64 3, .int .u64 1, .int .u64 0] 26))
      refine hK.out _ _ (HS.out _ _ is) (fun hS1 => ?_)
      (try simp only [Act.put, List.setIfInBounds_toArray, List.set_cons_zero, List.set_cons_succ])
      clear hK K
      generalize wa7.heap.size = B2 at n2 ⊢
      generalize wa7.alloc (.cells #[.int .u64 3, .int .u64 1, .int .u64 0] 26) = wa8 at *
      refine wpAnyH_take (i := 7) (oi := { dst := some 13, op := Go.Op.build 66 #[(0, Go.Operand.tmp 11), (1, Go.Operand.tmp 12)], type := 66, pos := "law.go:17", after := #[{ on := 5, ground := Go.Ground.data }, { on := 6, ground := Go.Ground.data }], guard := none }) (v := .agg #[.int .i64 2, .int .i64 0, .bool false, .int .i64 0, .int .i64 0, .int .i64 0, .slice (some ⟨B2, 0, none⟩) 3 3]) rfl (by kernel_rfl) (by kernel_rfl) (by kernel_rfl) (fun _ _ _ h => h) (Or.inl ⟨by rfl, fun w hSw => by (try dsimp only at hSw); go_simp⟩) hS1 ?_
      simp only [Act.put, List.setIfInBounds_toArray, List.set_cons_zero, List.set_cons_succ]
      refine wpAnyH_ready (rs := [12]) (by kernel_rfl) (by simp) (AllReadyH.cons (o := { dst := some 18, op := Go.Op.buildSlice 24 4 #[(0, Go.Operand.tmp 10), (1, Go.Operand.tmp 13), (2, Go.Operand.tmp 15), (3, Go.Operand.tmp 17)], type := 24, pos := "law.go:17", after := #[{ on := 4, ground := Go.Ground.data }, { on := 7, ground := Go.Ground.data }, { on := 9, ground := Go.Ground.data }, { on := 11, ground := Go.Ground.data }], guard := none }) rfl (fun K hK => ?_) AllReadyH.nil)
      go_simp
      have n4 := hid1 (new_obj wa8 (.cells #[.int .i64 1, .int .i64 0, .bool false, .int .i64 1, .int .i64 0, .int .i64 0, .slice (some ⟨B1, 0, none⟩) 1 1, .int .i64 2, .int .i64 0, .bool false, .int .i64 0, .int .i64 0, .int .i64 0, .slice (some ⟨B2, 0, none⟩) 3 3, .int .i64 1, .int .i64 0, .bool false, .int .i64 1, .int .i64 0, .int .i64 0, .slice none 0 0, .int .i64 1, .int .i64 0, .bool false, .int .i64 1, .int .i64 0, .int .i64 0, .slice none 0 0] 66))
      replace n1 := hid1 (((alloc_below wa8 (.cells #[.int .i64 1, .int .i64 0, .bool false, .int .i64 1, .int .i64 0, .int .i64 0, .slice (some ⟨B1, 0, none⟩) 1 1, .int .i64 2, .int .i64 0, .bool false, .int .i64 0, .int .i64 0, .int .i64 0, .slice (some ⟨B2, 0, none⟩) 3 3, .int .i64 1, .int .i64 0, .bool false, .int .i64 1, .int .i64 0, .int .i64 0, .slice none 0 0, .int .i64 1, .int .i64 0, .bool false, .int .i64 1, .int .i64 0, .int .i64 0, .slice none 0 0] 66)).block _ (lt_of_block n1.out)).trans n1.out)
      replace n3 := hid1 (((alloc_below wa8 (.cells #[.int .i64 1, .int .i64 0, .bool false, .int .i64 1, .int .i64 0, .int .i64 0, .slice (some ⟨B1, 0, none⟩) 1 1, .int .i64 2, .int .i64 0, .bool false, .int .i64 0, .int .i64 0, .int .i64 0, .slice (some ⟨B2, 0, none⟩) 3 3, .int .i64 1, .int .i64 0, .bool false, .int .i64 1, .int .i64 0, .int .i64 0, .slice none 0 0, .int .i64 1, .int .i64 0, .bool false, .int .i64 1, .int .i64 0, .int .i64 0, .slice none 0 0] 66)).block _ (lt_of_block n3.out)).trans n3.out)
      replace n2 := hid1 (((alloc_below wa8 (.cells #[.int .i64 1, .int .i64 0, .bool false, .int .i64 1, .int .i64 0, .int .i64 0, .slice (some ⟨B1, 0, none⟩) 1 1, .int .i64 2, .int .i64 0, .bool false, .int .i64 0, .int .i64 0, .int .i64 0, .slice (some ⟨B2, 0, none⟩) 3 3, .int .i64 1, .int .i64 0, .bool false, .int .i64 1, .int .i64 0, .int .i64 0, .slice none 0 0, .int .i64 1, .int .i64 0, .bool false, .int .i64 1, .int .i64 0, .int .i64 0, .slice none 0 0] 66)).block _ (lt_of_block n2.out)).trans n2.out)
      replace is := is.below (alloc_below wa8 (.cells #[.int .i64 1, .int .i64 0, .bool false, .int .i64 1, .int .i64 0, .int .i64 0, .slice (some ⟨B1, 0, none⟩) 1 1, .int .i64 2, .int .i64 0, .bool false, .int .i64 0, .int .i64 0, .int .i64 0, .slice (some ⟨B2, 0, none⟩) 3 3, .int .i64 1, .int .i64 0, .bool false, .int .i64 1, .int .i64 0, .int .i64 0, .slice none 0 0, .int .i64 1, .int .i64 0, .bool false, .int .i64 1, .int .i64 0, .int .i64 0, .slice none 0 0] 66))
      refine hK.out _ _ (HS.out _ _ is) (fun hS1 => ?_)
      (try simp only [Act.put, List.setIfInBounds_toArray, List.set_cons_zero, List.set_cons_succ])
      clear hK K
      generalize wa8.heap.size = Q at n4 ⊢
      generalize wa8.alloc (.cells #[.int .i64 1, .int .i64 0, .bool false, .int .i64 1, .int .i64 0, .int .i64 0, .slice (some ⟨B1, 0, none⟩) 1 1, .int .i64 2, .int .i64 0, .bool false, .int .i64 0, .int .i64 0, .int .i64 0, .slice (some ⟨B2, 0, none⟩) 3 3, .int .i64 1, .int .i64 0, .bool false, .int .i64 1, .int .i64 0, .int .i64 0, .slice none 0 0, .int .i64 1, .int .i64 0, .bool false, .int .i64 1, .int .i64 0, .int .i64 0, .slice none 0 0] 66) = wa9 at *
      refine wpAnyH_ready (rs := [14]) (by kernel_rfl) (by simp) (AllReadyH.cons (o := { dst := some 20, op := Go.Op.call { callee := Go.Callee.value (Go.Operand.func 9), args := #[Go.Operand.tmp 7, Go.Operand.tmp 18, Go.Operand.tmp 19, Go.Operand.const (Go.Value.slice none 0 0)], argTypes := #[23, 24, 25, 25] }, type := 25, pos := "law.go:17", after := #[{ on := 1, ground := Go.Ground.data }, { on := 12, ground := Go.Ground.data }, { on := 13, ground := Go.Ground.data }], guard := none }) rfl (fun K hK => ?_) AllReadyH.nil)
      go_simp
      go_at_call 9
      with_reducible refine (sm_laid (hw.out.below is.bel) n1.out n2.out n3.out n4.out).mono ?_
      rintro r wL ⟨R, rfl, hR, hR1, b1⟩
      (try simp only [])
      have hRA := hid1 (is.ltR hR1)
      replace is := is.below b1
      clear b1 n1 n2 n3 n4 hR1
      replace hR := hid1 hR
      refine hK.out _ _ (HS.out _ _ is) (fun hS1 => ?_)
      (try simp only [Act.put, List.setIfInBounds_toArray, List.set_cons_zero, List.set_cons_succ])
      clear hK K
      refine wpAnyH_ready (rs := [15]) (by kernel_rfl) (by simp) (AllReadyH.cons (o := { dst := none, op := Go.Op.store 23 (Go.Operand.tmp 0) (Go.Operand.tmp 6), type := 0, pos := "law.go:17", after := #[{ on := 0, ground := Go.Ground.data }, { on := 14, ground := Go.Ground.chain }, { on := 0, ground := Go.Ground.phase }, { on := 1, ground := Go.Ground.textOnly Go.Departure.lateStores }, { on := 2, ground := Go.Ground.textOnly Go.Departure.lateStores }, { on := 3, ground := Go.Ground.textOnly Go.Departure.lateStores }, { on := 4, ground := Go.Ground.textOnly Go.Departure.lateStores }, { on := 5, ground := Go.Ground.textOnly Go.Departure.lateStores }, { on := 6, ground := Go.Ground.textOnly Go.Departure.lateStores }, { on := 7, ground := Go.Ground.textOnly Go.Departure.lateStores }, { on := 8, ground := Go.Ground.textOnly Go.Departure.lateStores }, { on := 9, ground := Go.Ground.textOnly Go.Departure.lateStores }, { on := 10, ground := Go.Ground.textOnly Go.Departure.lateStores }, { on := 11, ground := Go.Ground.textOnly Go.Departure.lateStores }, { on := 12, ground := Go.Ground.textOnly Go.Departure.lateStores }, { on := 13, ground := Go.Ground.textOnly Go.Departure.lateStores }, { on := 14, ground := Go.Ground.textOnly Go.Departure.lateStoresUnsure }], guard := none }) rfl (fun K hK => ?_) AllReadyH.nil)
      obtain ⟨z0, z1, z2, z3, z4, z5, zf⟩ := is.ac
      go_simp
      have st := is.store hR.out hRA.out.1 (.int .i64 4) (.int .i64 1) (.int .i64 1) (.int .i64 1) (.int .i64 9) (.int .i64 0)
      clear z0 z1 z2 z3 z4 z5 zf
      replace is := st.1
      replace hR := hid1 st.2
      clear st
      refine hK.out _ _ (HS.out _ _ is) (fun hS1 => ?_)
      (try simp only [Act.put, List.setIfInBounds_toArray, List.set_cons_zero, List.set_cons_succ])
      clear hK K
      generalize World.setCell _ _ _ = w9 at *
      refine wpAnyH_take (i := 16) (oi := { dst := some 1, op := Go.Op.assign (Go.Operand.tmp 20), type := 25, pos := "law.go:17", after := #[{ on := 14, ground := Go.Ground.data }, { on := 15, ground := Go.Ground.chain }, { on := 0, ground := Go.Ground.phase }, { on := 1, ground := Go.Ground.phase }, { on := 2, ground := Go.Ground.phase }, { on := 3, ground := Go.Ground.phase }, { on := 4, ground := Go.Ground.phase }, { on := 5, ground := Go.Ground.phase }, { on := 6, ground := Go.Ground.phase }, { on := 7, ground := Go.Ground.phase }, { on := 8, ground := Go.Ground.phase }, { on := 9, ground := Go.Ground.phase }, { on := 10, ground := Go.Ground.phase }, { on := 11, ground := Go.Ground.phase }, { on := 12, ground := Go.Ground.phase }, { on := 13, ground := Go.Ground.phase }, { on := 14, ground := Go.Ground.phase }, { on := 15, ground := Go.Ground.phase }], guard := none }) (v := .slice (some ⟨R, 0, none⟩) 28 28) rfl (by kernel_rfl) (by kernel_rfl) (by kernel_rfl) (fun _ _ _ h => h) (Or.inl ⟨by rfl, fun w hSw => by (try dsimp only at hSw); go_simp⟩) hS1 ?_
      simp only [Act.put, List.setIfInBounds_toArray, List.set_cons_zero, List.set_cons_succ]
      refine wpAnyH_done (by kernel_rfl) ?_ _
      clear hS1
      obtain ⟨z0, z1, z2, z3, z4, z5, zf⟩ := is.ac
      go_wp2
      refine bodyPost_ret (v := .tuple #[.agg #[.int .i64 4, .int .i64 1, .int .i64 1, .int .i64 1, .int .i64 9, .int .i64 0], .slice (some ⟨R, 0, none⟩) 28 28]) (by simp [results, Tryz.results11, go_sem, z0, z1, z2, z3, z4, z5]) rfl ?_
      exact ⟨R, rfl, hR.out, hRA.out.2, is.bel⟩


  · go_simp
    have n2 := hid1 (new_obj w0 (.cells #[.int .u64 3, .int .u64 1, .int .u64 0] 26))
    replace is := is.below (alloc_below w0 (.cells #[.int .u64 3, .int .u64 1, .int .u64 0] 26))
    refine hK.out _ _ (HS.out _ _ is) (fun hS1 => ?_)
    (try simp only [Act.put, List.setIfInBounds_toArray, List.set_cons_zero, List.set_cons_succ])
    clear hK K
    generalize w0.heap.size = B2 at n2 ⊢
    generalize w0.alloc (.cells #[.int .u64 3, .int .u64 1, .int .u64 0] 26) = wa10 at *
    refine wpAnyH_take (i := 7) (oi := { dst := some 13, op := Go.Op.build 66 #[(0, Go.Operand.tmp 11), (1, Go.Operand.tmp 12)], type := 66, pos := "law.go:17", after := #[{ on := 5, ground := Go.Ground.data }, { on := 6, ground := Go.Ground.data }], guard := none }) (v := .agg #[.int .i64 2, .int .i64 0, .bool false, .int .i64 0, .int .i64 0, .int .i64 0, .slice (some ⟨B2, 0, none⟩) 3 3]) rfl (by kernel_rfl) (by kernel_rfl) (by kernel_rfl) (fun _ _ _ h => h) (Or.inl ⟨by rfl, fun w hSw => by (try dsimp only at hSw); go_simp⟩) hS1 ?_
    simp only [Act.put, List.setIfInBounds_toArray, List.set_cons_zero, List.set_cons_succ]
    refine wpAnyH_ready (rs := [3, 13]) (by kernel_rfl) (by simp) (AllReadyH.cons (o := { dst := some 9, op := Go.Op.buildSlice 25 1 #[(0, Go.Operand.const (Go.Value.int Go.IntKind.u64 2))], type := 25, pos := "law.go:17", after := #[], guard := none }) rfl (fun K hK => ?_) (AllReadyH.cons (o := { dst := some 19, op := Go.Op.buildSlice 25 1 #[(0, Go.Operand.const (Go.Value.int Go.IntKind.u64 1))], type := 25, pos := "law.go:17", after := #[], guard := none }) rfl (fun K hK => ?_) AllReadyH.nil))
    · go_simp
      have n1 := hid1 (new_obj wa10 (.cells #[.int .u64 2] 26))
      replace n2 := hid1 (((alloc_below wa10 (.cells #[.int .u64 2] 26)).block _ (lt_of_block n2.out)).trans n2.out)
      replace is := is.below (alloc_below wa10 (.cells #[.int .u64 2] 26))
      refine hK.out _ _ (HS.out _ _ is) (fun hS1 => ?_)
      (try simp only [Act.put, List.setIfInBounds_toArray, List.set_cons_zero, List.set_cons_succ])
      clear hK K
      generalize wa10.heap.size = B1 at n1 ⊢
      generalize wa10.alloc (.cells #[.int .u64 2] 26) = wa11 at *
      refine wpAnyH_take (i := 4) (oi := { dst := some 10, op := Go.Op.build 66 #[(0, Go.Operand.tmp 8), (1, Go.Operand.tmp 9)], type := 66, pos := "law.go:17", after := #[{ on := 2, ground := Go.Ground.data }, { on := 3, ground := Go.Ground.data }], guard := none }) (v := .agg #[.int .i64 1, .int .i64 0, .bool false, .int .i64 1, .int .i64 0, .int .i64 0, .slice (some ⟨B1, 0, none⟩) 1 1]) rfl (by kernel_rfl) (by kernel_rfl) (by kernel_rfl) (fun _ _ _ h => h) (Or.inl ⟨by rfl, fun w hSw => by (try dsimp only at hSw); go_simp⟩) hS1 ?_
      simp only [Act.put, List.setIfInBounds_toArray, List.set_cons_zero, List.set_cons_succ]
      refine wpAnyH_ready (rs := [12, 13]) (by kernel_rfl) (by simp) (AllReadyH.cons (o := { dst := some 18, op := Go.Op.buildSlice 24 4 #[(0, Go.Operand.tmp 10), (1, Go.Operand.tmp 13), (2, Go.Operand.tmp 15), (3, Go.Operand.tmp 17)], type := 24, pos := "law.go:17", after := #[{ on := 4, ground := Go.Ground.data }, { on := 7, ground := Go.Ground.data }, { on := 9, ground := Go.Ground.data }, { on := 11, ground := Go.Ground.data }], guard := none }) rfl (fun K hK => ?_) (AllReadyH.cons (o := { dst := some 19, op := Go.Op.buildSlice 25 1 #[(0, Go.Operand.const (Go.Value.int Go.IntKind.u64 1))], type := 25, pos := "law.go:17", after := #[], guard := none }) rfl (fun K hK => ?_) AllReadyH.nil))
      · go_simp
        have n4 := hid1 (new_obj wa11 (.cells #[.int .i64 1, .int .i64 0, .bool false, .int .i64 1, .int .i64 0, .int .i64 0, .slice (some ⟨B1, 0, none⟩) 1 1, .int .i64 2, .int .i64 0, .bool false, .int .i64 0, .int .i64 0, .int .i64 0, .slice (some ⟨B2, 0, none⟩) 3 3, .int .i64 1, .int .i64 0, .bool false, .int .i64 1, .int .i64 0, .int .i64 0, .slice none 0 0, .int .i64 1, .int .i64 0, .bool false, .int .i64 1, .int .i64 0, .int .i64 0, .slice none 0 0] 66))
        replace n2 := hid1 (((alloc_below wa11 (.cells #[.int .i64 1, .int .i64 0, .bool false, .int .i64 1, .int .i64 0, .int .i64 0, .slice (some ⟨B1, 0, none⟩) 1 1, .int .i64 2, .int .i64 0, .bool false, .int .i64 0, .int .i64 0, .int .i64 0, .slice (some ⟨B2, 0, none⟩) 3 3, .int .i64 1, .int .i64 0, .bool false, .int .i64 1, .int .i64 0, .int .i64 0, .slice none 0 0, .int .i64 1, .int .i64 0, .bool false, .int .i64 1, .int .i64 0, .int .i64 0, .slice none 0 0] 66)).block _ (lt_of_block n2.out)).trans n2.out)
        replace n1 := hid1 (((alloc_below wa11 (.cells #[.int .i64 1, .int .i64 0, .bool false, .int .i64 1, .int .i64 0, .int .i64 0, .slice (some ⟨B1, 0, none⟩) 1 1, .int .i64 2, .int .i64 0, .bool false, .int .i64 0, .int .i64 0, .int .i64 0, .slice (some ⟨B2, 0, none⟩) 3 3, .int .i64 1, .int .i64 0, .bool false, .int .i64 1, .int .i64 0, .int .i64 0, .slice none 0 0, .int .i64 1, .int .i64 0, .bool false, .int .i64 1, .int .i64 0, .int .i64 0, .slice none 0 0] 66)).block _ (lt_of_block n1.out)).trans n1.out)
        replace is := is.below (alloc_below wa11 (.cells #[.int .i64 1, .int .i64 0, .bool false, .int .i64 1, .int .i64 0, .int .i64 0, .slice (some ⟨B1, 0, none⟩) 1 1, .int .i64 2, .int .i64 0, .bool false, .int .i64 0, .int .i64 0, .int .i64 0, .slice (some ⟨B2, 0, none⟩) 3 3, .int .i64 1, .int .i64 0, .bool false, .int .i64 1, .int .i64 0, .int .i64 0, .slice none 0 0, .int .i64 1, .int .i64 0, .bool false, .int .i64 1, .int .i64 0, .int .i64 0, .slice none 0 0] 66))
        refine hK.out _ _ (HS.out _ _ is) (fun hS1 => ?_)
        (try simp only [Act.put, List.setIfInBounds_toArray, List.set_cons_zero, List.set_cons_succ])
        clear hK K
        generalize wa11.heap.size = Q at n4 ⊢
        generalize wa11.alloc (.cells #[.int .i64 1, .int .i64 0, .bool false, .int .i64 1, .int .i64 0, .int .i64 0, .slice (some ⟨B1, 0, none⟩) 1 1, .int .i64 2, .int .i64 0, .bool false, .int .i64 0, .int .i64 0, .int .i64 0, .slice (some ⟨B2, 0, none⟩) 3 3, .int .i64 1, .int .i64 0, .bool false, .int .i64 1, .int .i64 0, .int .i64 0, .slice none 0 0, .int .i64 1, .int .i64 0, .bool false, .int .i64 1, .int .i64 0, .int .i64 0, .slice none 0 0] 66) = wa12 at *
        refine wpAnyH_ready (rs := [13]) (by kernel_rfl) (by simp) (AllReadyH.cons (o := { dst := some 19, op := Go.Op.buildSlice 25 1 #[(0, Go.Operand.const (Go.Value.int Go.IntKind.u64 1))], type := 25, pos := "law.go:17", after := #[], guard := none }) rfl (fun K hK => ?_) AllReadyH.nil)
        go_simp
        have n3 := hid1 (new_obj wa12 (.cells #[.int .u64 1] 26))
        replace n2 := hid1 (((alloc_below wa12 (.cells #[.int .u64 1] 26)).block _ (lt_of_block n2.out)).trans n2.out)
        replace n1 := hid1 (((alloc_below wa12 (.cells #[.int .u64 1] 26)).block _ (lt_of_block n1.out)).trans n1.out)
        replace n4 := hid1 (((alloc_below wa12 (.cells #[.int .u64 1] 26)).block _ (lt_of_block n4.out)).trans n4.out)
        replace is := is.below (alloc_below wa12 (.cells #[.int .u64 1] 26))
        refine hK.out _ _ (HS.out _ _ is) (fun hS1 => ?_)
        (try simp only [Act.put, List.setIfInBounds_toArray, List.set_cons_zero, List.set_cons_succ])
        clear hK K
        generalize wa12.heap.size = B3 at n3 ⊢
        generalize wa12.alloc (.cells #[.int .u64 1] 26) = wa13 at *
        refine wpAnyH_ready (rs := [14]) (by kernel_rfl) (by simp) (AllReadyH.cons (o := { dst := some 20, op := Go.Op.call { callee := Go.Callee.value (Go.Operand.func 9), args := #[Go.Operand.tmp 7, Go.Operand.tmp 18, Go.Operand.tmp 19, Go.Operand.const (Go.Value.slice none 0 0)], argTypes := #[23, 24, 25, 25] }, type := 25, pos := "law.go:17", after := #[{ on := 1, ground := Go.Ground.data }, { on := 12, ground := Go.Ground.data }, { on := 13, ground := Go.Ground.data }], guard := none }) rfl (fun K hK => ?_) AllReadyH.nil)
        go_simp
        go_at_call 9
        with_reducible refine (sm_laid (hw.out.below is.bel) n1.out n2.out n3.out n4.out).mono ?_
        rintro r wL ⟨R, rfl, hR, hR1, b1⟩
        (try simp only [])
        have hRA := hid1 (is.ltR hR1)
        replace is := is.below b1
        clear b1 n1 n2 n3 n4 hR1
        replace hR := hid1 hR
        refine hK.out _ _ (HS.out _ _ is) (fun hS1 => ?_)
        (try simp only [Act.put, List.setIfInBounds_toArray, List.set_cons_zero, List.set_cons_succ])
        clear hK K
        refine wpAnyH_ready (rs := [15]) (by kernel_rfl) (by simp) (AllReadyH.cons (o := { dst := none, op := Go.Op.store 23 (Go.Operand.tmp 0) (Go.Operand.tmp 6), type := 0, pos := "law.go:17", after := #[{ on := 0, ground := Go.Ground.data }, { on := 14, ground := Go.Ground.chain }, { on := 0, ground := Go.Ground.phase }, { on := 1, ground := Go.Ground.textOnly Go.Departure.lateStores }, { on := 2, ground := Go.Ground.textOnly Go.Departure.lateStores }, { on := 3, ground := Go.Ground.textOnly Go.Departure.lateStores }, { on := 4, ground := Go.Ground.textOnly Go.Departure.lateStores }, { on := 5, ground := Go.Ground.textOnly Go.Departure.lateStores }, { on := 6, ground := Go.Ground.textOnly Go.Departure.lateStores }, { on := 7, ground := Go.Ground.textOnly Go.Departure.lateStores }, { on := 8, ground := Go.Ground.textOnly Go.Departure.lateStores }, { on := 9, ground := Go.Ground.textOnly Go.Departure.lateStores }, { on := 10, ground := Go.Ground.textOnly Go.Departure.lateStores }, { on := 11, ground := Go.Ground.textOnly Go.Departure.lateStores }, { on := 12, ground := Go.Ground.textOnly Go.Departure.lateStores }, { on := 13, ground := Go.Ground.textOnly Go.Departure.lateStores }, { on := 14, ground := Go.Ground.textOnly Go.Departure.lateStoresUnsure }], guard := none }) rfl (fun K hK => ?_) AllReadyH.nil)
        obtain ⟨z0, z1, z2, z3, z4, z5, zf⟩ := is.ac
        go_simp
        have st := is.store hR.out hRA.out.1 (.int .i64 4) (.int .i64 1) (.int .i64 1) (.int .i64 1) (.int .i64 9) (.int .i64 0)
        clear z0 z1 z2 z3 z4 z5 zf
        replace is := st.1
        replace hR := hid1 st.2
        clear st
        refine hK.out _ _ (HS.out _ _ is) (fun hS1 => ?_)
        (try simp only [Act.put, List.setIfInBounds_toArray, List.set_cons_zero, List.set_cons_succ])
        clear hK K
        generalize World.setCell _ _ _ = w9 at *
        refine wpAnyH_take (i := 16) (oi := { dst := some 1, op := Go.Op.assign (Go.Operand.tmp 20), type := 25, pos := "law.go:17", after := #[{ on := 14, ground := Go.Ground.data }, { on := 15, ground := Go.Ground.chain }, { on := 0, ground := Go.Ground.phase }, { on := 1, ground := Go.Ground.phase }, { on := 2, ground := Go.Ground.phase }, { on := 3, ground := Go.Ground.phase }, { on := 4, ground := Go.Ground.phase }, { on := 5, ground := Go.Ground.phase }, { on := 6, ground := Go.Ground.phase }, { on := 7, ground := Go.Ground.phase }, { on := 8, ground := Go.Ground.phase }, { on := 9, ground := Go.Ground.phase }, { on := 10, ground := Go.Ground.phase }, { on := 11, ground := Go.Ground.phase }, { on := 12, ground := Go.Ground.phase }, { on := 13, ground := Go.Ground.phase }, { on := 14, ground := Go.Ground.phase }, { on := 15, ground := Go.Ground.phase }], guard := none }) (v := .slice (some ⟨R, 0, none⟩) 28 28) rfl (by kernel_rfl) (by kernel_rfl) (by kernel_rfl) (fun _ _ _ h => h) (Or.inl ⟨by rfl, fun w hSw => by (try dsimp only at hSw); go_simp⟩) hS1 ?_
        simp only [Act.put, List.setIfInBounds_toArray, List.set_cons_zero, List.set_cons_succ]
        refine wpAnyH_done (by kernel_rfl) ?_ _
        clear hS1
        obtain ⟨z0, z1, z2, z3, z4, z5, zf⟩ := is.ac
        go_wp2
        refine bodyPost_ret (v := .tuple #[.agg #[.int .i64 4, .int .i64 1, .int .i64 1, .int .i64 1, .int .i64 9, .int .i64 0], .slice (some ⟨R, 0, none⟩) 28 28]) (by simp [results, Tryz.results11, go_sem, z0, z1, z2, z3, z4, z5]) rfl ?_
        exact ⟨R, rfl, hR.out, hRA.out.2, is.bel⟩

      · go_simp
        have n3 := hid1 (new_obj wa11 (.cells #[.int .u64 1] 26))
        replace n2 := hid1 (((alloc_below wa11 (.cells #[.int .u64 1] 26)).block _ (lt_of_block n2.out)).trans n2.out)
        replace n1 := hid1 (((alloc_below wa11 (.cells #[.int .u64 1] 26)).block _ (lt_of_block n1.out)).trans n1.out)
        replace is := is.below (alloc_below wa11 (.cells #[.int .u64 1] 26))
        refine hK.out _ _ (HS.out _ _ is) (fun hS1 => ?_)
        (try simp only [Act.put, List.setIfInBounds_toArray, List.set_cons_zero, List.set_cons_succ])
        clear hK K
        generalize wa11.heap.size = B3 at n3 ⊢
        generalize wa11.alloc (.cells #[.int .u64 1] 26) = wa14 at *
        refine wpAnyH_ready (rs := [12]) (by kernel_rfl) (by simp) (AllReadyH.cons (o := { dst := some 18, op := Go.Op.buildSlice 24 4 #[(0, Go.Operand.tmp 10), (1, Go.Operand.tmp 13), (2, Go.Operand.tmp 15), (3, Go.Operand.tmp 17)], type := 24, pos := "law.go:17", after := #[{ on := 4, ground := Go.Ground.data }, { on := 7, ground := Go.Ground.data }, { on := 9, ground := Go.Ground.data }, { on := 11, ground := Go.Ground.data }], guard := none }) rfl (fun K hK => ?_) AllReadyH.nil)
        go_simp
        have n4 := hid1 (new_obj wa14 (.cells #[.int .i64 1, .int .i64 0, .bool false, .int .i64 1, .int .i64 0, .int .i64 0, .slice (some ⟨B1, 0, none⟩) 1 1, .int .i64 2, .int .i64 0, .bool false, .int .i64 0, .int .i64 0, .int .i64 0, .slice (some ⟨B2, 0, none⟩) 3 3, .int .i64 1, .int .i64 0, .bool false, .int .i64 1, .int .i64 0, .int .i64 0, .slice none 0 0, .int .i64 1, .int .i64 0, .bool false, .int .i64 1, .int .i64 0, .int .i64 0, .slice none 0 0] 66))
        replace n2 := hid1 (((alloc_below wa14 (.cells #[.int .i64 1, .int .i64 0, .bool false, .int .i64 1, .int .i64 0, .int .i64 0, .slice (some ⟨B1, 0, none⟩) 1 1, .int .i64 2, .int .i64 0, .bool false, .int .i64 0, .int .i64 0, .int .i64 0, .slice (some ⟨B2, 0, none⟩) 3 3, .int .i64 1, .int .i64 0, .bool false, .int .i64 1, .int .i64 0, .int .i64 0, .slice none 0 0, .int .i64 1, .int .i64 0, .bool false, .int .i64 1, .int .i64 0, .int .i64 0, .slice none 0 0] 66)).block _ (lt_of_block n2.out)).trans n2.out)
        replace n1 := hid1 (((alloc_below wa14 (.cells #[.int .i64 1, .int .i64 0, .bool false, .int .i64 1, .int .i64 0, .int .i64 0, .slice (some ⟨B1, 0, none⟩) 1 1, .int .i64 2, .int .i64 0, .bool false, .int .i64 0, .int .i64 0, .int .i64 0, .slice (some ⟨B2, 0, none⟩) 3 3, .int .i64 1, .int .i64 0, .bool false, .int .i64 1, .int .i64 0, .int .i64 0, .slice none 0 0, .int .i64 1, .int .i64 0, .bool false, .int .i64 1, .int .i64 0, .int .i64 0, .slice none 0 0] 66)).block _ (lt_of_block n1.out)).trans n1.out)
        replace n3 := hid1 (((alloc_below wa14 (.cells #[.int .i64 1, .int .i64 0, .bool false, .int .i64 1, .int .i64 0, .int .i64 0, .slice (some ⟨B1, 0, none⟩) 1 1, .int .i64 2, .int .i64 0, .bool false, .int .i64 0, .int .i64 0, .int .i64 0, .slice (some ⟨B2, 0, none⟩) 3 3, .int .i64 1, .int .i64 0, .bool false, .int .i64 1, .int .i64 0, .int .i64 0, .slice none 0 0, .int .i64 1, .int .i64 0, .bool false, .int .i64 1, .int .i64 0, .int .i64 0, .slice none 0 0] 66)).block _ (lt_of_block n3.out)).trans n3.out)
        replace is := is.below (alloc_below wa14 (.cells #[.int .i64 1, .int .i64 0, .bool false, .int .i64 1, .int .i64 0, .int .i64 0, .slice (some ⟨B1, 0, none⟩) 1 1, .int .i64 2, .int .i64 0, .bool false, .int .i64 0, .int .i64 0, .int .i64 0, .slice (some ⟨B2, 0, none⟩) 3 3, .int .i64 1, .int .i64 0, .bool false, .int .i64 1, .int .i64 0, .int .i64 0, .slice none 0 0, .int .i64 1, .int .i64 0, .bool false, .int .i64 1, .int .i64 0, .int .i64 0, .slice none 0 0] 66))
        refine hK.out _ _ (HS.out _ _ is) (fun hS1 => ?_)
        (try simp only [Act.put, List.setIfInBounds_toArray, List.set_cons_zero, List.set_cons_succ])
        clear hK K
        generalize wa14.heap.size = Q at n4 ⊢
        generalize wa14.alloc (.cells #[.int .i64 1, .int .i64 0, .bool false, .int .i64 1, .int .i64 0, .int .i64 0, .slice (some ⟨B1, 0, none⟩) 1 1, .int .i64 2, .int .i64 0, .bool false, .int .i64 0, .int .i64 0, .int .i64 0, .slice (some ⟨B2, 0, none⟩) 3 3, .int .i64 1, .int .i64 0, .bool false, .int .i64 1, .int .i64 0, .int .i64 0, .slice none 0 0, .int .i64 1, .int .i64 0, .bool false, .int .i64 1, .int .i64 0, .int .i64 0, .slice none 0 0] 66) = wa15 at *
        refine wpAnyH_ready (rs := [14]) (by kernel_rfl) (by simp) (AllReadyH.cons (o := { dst := some 20, op := Go.Op.call { callee := Go.Callee.value (Go.Operand.func 9), args := #[Go.Operand.tmp 7, Go.Operand.tmp 18, Go.Operand.tmp 19, Go.Operand.const (Go.Value.slice none 0 0)], argTypes := #[23, 24, 25, 25] }, type := 25, pos := "law.go:17", after := #[{ on := 1, ground := Go.Ground.data }, { on := 12, ground := Go.Ground.data }, { on := 13, ground := Go.Ground.data }], guard := none }) rfl (fun K hK => ?_) AllReadyH.nil)
        go_simp
        go_at_call 9
        with_reducible refine (sm_laid (hw.out.below is.bel) n1.out n2.out n3.out n4.out).mono ?_
        rintro r wL ⟨R, rfl, hR, hR1, b1⟩
        (try simp only [])
        have hRA := hid1 (is.ltR hR1)
        replace is := is.below b1
        clear b1 n1 n2 n3 n4 hR1
        replace hR := hid1 hR
        refine hK.out _ _ (HS.out _ _ is) (fun hS1 => ?_)
        (try simp only [Act.put, List.setIfInBounds_toArray, List.set_cons_zero, List.set_cons_succ])
        clear hK K
        refine wpAnyH_ready (rs := [15]) (by kernel_rfl) (by simp) (AllReadyH.cons (o := { dst := none, op := Go.Op.store 23 (Go.Operand.tmp 0) (Go.Operand.tmp 6), type := 0, pos := "law.go:17", after := #[{ on := 0, ground := Go.Ground.data }, { on := 14, ground := Go.Ground.chain }, { on := 0, ground := Go.Ground.phase }, { on := 1, ground := Go.Ground.textOnly Go.Departure.lateStores }, { on := 2, ground := Go.Ground.textOnly Go.Departure.lateStores }, { on := 3, ground := Go.Ground.textOnly Go.Departure.lateStores }, { on := 4, ground := Go.Ground.textOnly Go.Departure.lateStores }, { on := 5, ground := Go.Ground.textOnly Go.Departure.lateStores }, { on := 6, ground := Go.Ground.textOnly Go.Departure.lateStores }, { on := 7, ground := Go.Ground.textOnly Go.Departure.lateStores }, { on := 8, ground := Go.Ground.textOnly Go.Departure.lateStores }, { on := 9, ground := Go.Ground.textOnly Go.Departure.lateStores }, { on := 10, ground := Go.Ground.textOnly Go.Departure.lateStores }, { on := 11, ground := Go.Ground.textOnly Go.Departure.lateStores }, { on := 12, ground := Go.Ground.textOnly Go.Departure.lateStores }, { on := 13, ground := Go.Ground.textOnly Go.Departure.lateStores }, { on := 14, ground := Go.Ground.textOnly Go.Departure.lateStoresUnsure }], guard := none }) rfl (fun K hK => ?_) AllReadyH.nil)
        obtain ⟨z0, z1, z2, z3, z4, z5, zf⟩ := is.ac
        go_simp
        have st := is.store hR.out hRA.out.1 (.int .i64 4) (.int .i64 1) (.int .i64 1) (.int .i64 1) (.int .i64 9) (.int .i64 0)
        clear z0 z1 z2 z3 z4 z5 zf
        replace is := st.1
        replace hR := hid1 st.2
        clear st
        refine hK.out _ _ (HS.out _ _ is) (fun hS1 => ?_)
        (try simp only [Act.put, List.setIfInBounds_toArray, List.set_cons_zero, List.set_cons_succ])
        clear hK K
        generalize World.setCell _ _ _ = w9 at *
        refine wpAnyH_take (i := 16) (oi := { dst := some 1, op := Go.Op.assign (Go.Operand.tmp 20), type := 25, pos := "law.go:17", after := #[{ on := 14, ground := Go.Ground.data }, { on := 15, ground := Go.Ground.chain }, { on := 0, ground := Go.Ground.phase }, { on := 1, ground := Go.Ground.phase }, { on := 2, ground := Go.Ground.phase }, { on := 3, ground := Go.Ground.phase }, { on := 4, ground := Go.Ground.phase }, { on := 5, ground := Go.Ground.phase }, { on := 6, ground := Go.Ground.phase }, { on := 7, ground := Go.Ground.phase }, { on := 8, ground := Go.Ground.phase }, { on := 9, ground := Go.Ground.phase }, { on := 10, ground := Go.Ground.phase }, { on := 11, ground := Go.Ground.phase }, { on := 12, ground := Go.Ground.phase }, { on := 13, ground := Go.Ground.phase }, { on := 14, ground := Go.Ground.phase }, { on := 15, ground := Go.Ground.phase }], guard := none }) (v := .slice (some ⟨R, 0, none⟩) 28 28) rfl (by kernel_rfl) (by kernel_rfl) (by kernel_rfl) (fun _ _ _ h => h) (Or.inl ⟨by rfl, fun w hSw => by (try dsimp only at hSw); go_simp⟩) hS1 ?_
        simp only [Act.put, List.setIfInBounds_toArray, List.set_cons_zero, List.set_cons_succ]
        refine wpAnyH_done (by kernel_rfl) ?_ _
        clear hS1
        obtain ⟨z0, z1, z2, z3, z4, z5, zf⟩ := is.ac
        go_wp2
        refine bodyPost_ret (v := .tuple #[.agg #[.int .i64 4, .int .i64 1, .int .i64 1, .int .i64 1, .int .i64 9, .int .i64 0], .slice (some ⟨R, 0, none⟩) 28 28]) (by simp [results, Tryz.results11, go_sem, z0, z1, z2, z3, z4, z5]) rfl ?_
        exact ⟨R, rfl, hR.out, hRA.out.2, is.bel⟩


    · go_simp
      have n3 := hid1 (new_obj wa10 (.cells #[.int .u64 1] 26))
      replace n2 := hid1 (((alloc_below wa10 (.cells #[.int .u64 1] 26)).block _ (lt_of_block n2.out)).trans n2.out)
      replace is := is.below (alloc_below wa10 (.cells #[.int .u64 1] 26))
      refine hK.out _ _ (HS.out _ _ is) (fun hS1 => ?_)
      (try simp only [Act.put, List.setIfInBounds_toArray, List.set_cons_zero, List.set_cons_succ])
      clear hK K
      generalize wa10.heap.size = B3 at n3 ⊢
      generalize wa10.alloc (.cells #[.int .u64 1] 26) = wa16 at *
      refine wpAnyH_ready (rs := [3]) (by kernel_rfl) (by simp) (AllReadyH.cons (o := { dst := some 9, op := Go.Op.buildSlice 25 1 #[(0, Go.Operand.const (Go.Value.int Go.IntKind.u64 2))], type := 25, pos := "law.go:17", after := #[], guard := none }) rfl (fun K hK => ?_) AllReadyH.nil)
      go_simp
      have n1 := hid1 (new_obj wa16 (.cells #[.int .u64 2] 26))
      replace n2 := hid1 (((alloc_below wa16 (.cells #[.int .u64 2] 26)).block _ (lt_of_block n2.out)).trans n2.out)
      replace n3 := hid1 (((alloc_below wa16 (.cells #[.int .u64 2] 26)).block _ (lt_of_block n3.out)).trans n3.out)
      replace is := is.below (alloc_below wa16 (.cells #[.int .u64 2] 26))
      refine hK.out _ _ (HS.out _ _ is) (fun hS1 => ?_)
      (try simp only [Act.put, List.setIfInBounds_toArray, List.set_cons_zero, List.set_cons_succ])
      clear hK K
      generalize wa16.heap.size = B1 at n1 ⊢
      generalize wa16.alloc (.cells #[.int .u64 2] 26) = wa17 at *
      refine wpAnyH_take (i := 4) (oi := { dst := some 10, op := Go.Op.build 66 #[(0, Go.Operand.tmp 8), (1, Go.Operand.tmp 9)], type := 66, pos := "law.go:17", after := #[{ on := 2, ground := Go.Ground.data }, { on := 3, ground := Go.Ground.data }], guard := none }) (v := .agg #[.int .i64 1, .int .i64 0, .bool false, .int .i64 1, .int .i64 0, .int .i64 0, .slice (some ⟨B1, 0, none⟩) 1 1]) rfl (by kernel_rfl) (by kernel_rfl) (by kernel_rfl) (fun _ _ _ h => h) (Or.inl ⟨by rfl, fun w hSw => by (try dsimp only at hSw); go_simp⟩) hS1 ?_
      simp only [Act.put, List.setIfInBounds_toArray, List.set_cons_zero, List.set_cons_succ]
      refine wpAnyH_ready (rs := [12]) (by kernel_rfl) (by simp) (AllReadyH.cons (o := { dst := some 18, op := Go.Op.buildSlice 24 4 #[(0, Go.Operand.tmp 10), (1, Go.Operand.tmp 13), (2, Go.Operand.tmp 15), (3, Go.Operand.tmp 17)], type := 24, pos := "law.go:17", after := #[{ on := 4, ground := Go.Ground.data }, { on := 7, ground := Go.Ground.data }, { on := 9, ground := Go.Ground.data }, { on := 11, ground := Go.Ground.data }], guard := none }) rfl (fun K hK => ?_) AllReadyH.nil)
      go_simp
      have n4 := hid1 (new_obj wa17 (.cells #[.int .i64 1, .int .i64 0, .bool false, .int .i64 1, .int .i64 0, .int .i64 0, .slice (some ⟨B1, 0, none⟩) 1 1, .int .i64 2, .int .i64 0, .bool false, .int .i64 0, .int .i64 0, .int .i64 0, .slice (some ⟨B2, 0, none⟩) 3 3, .int .i64 1, .int .i64 0, .bool false, .int .i64 1, .int .i64 0, .int .i64 0, .slice none 0 0, .int .i64 1, .int .i64 0, .bool false, .int .i64 1, .int .i64 0, .int .i64 0, .slice none 0 0] 66))
      replace n2 := hid1 (((alloc_below wa17 (.cells #[.int .i64 1, .int .i64 0, .bool false, .int .i64 1, .int .i64 0, .int .i64 0, .slice (some ⟨B1, 0, none⟩) 1 1, .int .i64 2, .int .i64 0, .bool false, .int .i64 0, .int .i64 0, .int .i64 0, .slice (some ⟨B2, 0, none⟩) 3 3, .int .i64 1, .int .i64 0, .bool false, .int .i64 1, .int .i64 0, .int .i64 0, .slice none 0 0, .int .i64 1, .int .i64 0, .bool false, .int .i64 1, .int .i64 0, .int .i64 0, .slice none 0 0] 66)).block _ (lt_of_block n2.out)).trans n2.out)
      replace n3 := hid1 (((alloc_below wa17 (.cells #[.int .i64 1, .int .i64 0, .bool false, .int .i64 1, .int .i64 0, .int .i64 0, .slice (some ⟨B1, 0, none⟩) 1 1, .int .i64 2, .int .i64 0, .bool false, .int .i64 0, .int .i64 0, .int .i64 0, .slice (some ⟨B2, 0, none⟩) 3 3, .int .i64 1, .int .i64 0, .bool false, .int .i64 1, .int .i64 0, .int .i64 0, .slice none 0 0, .int .i64 1, .int .i64 0, .bool false, .int .i64 1, .int .i64 0, .int .i64 0, .slice none 0 0] 66)).block _ (lt_of_block n3.out)).trans n3.out)
      replace n1 := hid1 (((alloc_below wa17 (.cells #[.int .i64 1, .int .i64 0, .bool false, .int .i64 1, .int .i64 0, .int .i64 0, .slice (some ⟨B1, 0, none⟩) 1 1, .int .i64 2, .int .i64 0, .bool false, .int .i64 0, .int .i64 0, .int .i64 0, .slice (some ⟨B2, 0, none⟩) 3 3, .int .i64 1, .int .i64 0, .bool false, .int .i64 1, .int .i64 0, .int .i64 0, .slice none 0 0, .int .i64 1, .int .i64 0, .bool false, .int .i64 1, .int .i64 0, .int .i64 0, .slice none 0 0] 66)).block _ (lt_of_block n1.out)).trans n1.out)
      replace is := is.below (alloc_below wa17 (.cells #[.int .i64 1, .int .i64 0, .bool false, .int .i64 1, .int .i64 0, .int .i64 0, .slice (some ⟨B1, 0, none⟩) 1 1, .int .i64 2, .int .i64 0, .bool false, .int .i64 0, .int .i64 0, .int .i64 0, .slice (some ⟨B2, 0, none⟩) 3 3, .int .i64 1, .int .i64 0, .bool false, .int .i64 1, .int .i64 0, .int .i64 0, .slice none 0 0, .int .i64 1, .int .i64 0, .bool false, .int .i64 1, .int .i64 0, .int .i64 0, .slice none 0 0] 66))
      refine hK.out _ _ (HS.out _ _ is) (fun hS1 => ?_)
      (try simp only [Act.put, List.setIfInBounds_toArray, List.set_cons_zero, List.set_cons_succ])
      clear hK K
      generalize wa17.heap.size = Q at n4 ⊢
      generalize wa17.alloc (.cells #[.int .i64 1, .int .i64 0, .bool false, .int .i64 1, .int .i64 0, .int .i64 0, .slice (some ⟨B1, 0, none⟩) 1 1, .int .i64 2, .int .i64 0, .bool false, .int .i64 0, .int .i64 0, .int .i64 0, .slice (some ⟨B2, 0, none⟩) 3 3, .int .i64 1, .int .i64 0, .bool false, .int .i64 1, .int .i64 0, .int .i64 0, .slice none 0 0, .int .i64 1, .int .i64 0, .bool false, .int .i64 1, .int .i64 0, .int .i64 0, .slice none 0 0] 66) = wa18 at *
      refine wpAnyH_ready (rs := [14]) (by kernel_rfl) (by simp) (AllReadyH.cons (o := { dst := some 20, op := Go.Op.call { callee := Go.Callee.value (Go.Operand.func 9), args := #[Go.Operand.tmp 7, Go.Operand.tmp 18, Go.Operand.tmp 19, Go.Operand.const (Go.Value.slice none 0 0)], argTypes := #[23, 24, 25, 25] }, type := 25, pos := "law.go:17", after := #[{ on := 1, ground := Go.Ground.data }, { on := 12, ground := Go.Ground.data }, { on := 13, ground := Go.Ground.data }], guard := none }) rfl (fun K hK => ?_) AllReadyH.nil)
      go_simp
      go_at_call 9
      with_reducible refine (sm_laid (hw.out.below is.bel) n1.out n2.out n3.out n4.out).mono ?_
      rintro r wL ⟨R, rfl, hR, hR1, b1⟩
      (try simp only [])
      have hRA := hid1 (is.ltR hR1)
      replace is := is.below b1
      clear b1 n1 n2 n3 n4 hR1
      replace hR := hid1 hR
      refine hK.out _ _ (HS.out _ _ is) (fun hS1 => ?_)
      (try simp only [Act.put, List.setIfInBounds_toArray, List.set_cons_zero, List.set_cons_succ])
      clear hK K
      refine wpAnyH_ready (rs := [15]) (by kernel_rfl) (by simp) (AllReadyH.cons (o := { dst := none, op := Go.Op.store 23 (Go.Operand.tmp 0) (Go.Operand.tmp 6), type := 0, pos := "law.go:17", after := #[{ on := 0, ground := Go.Ground.data }, { on := 14, ground := Go.Ground.chain }, { on := 0, ground := Go.Ground.phase }, { on := 1, ground := Go.Ground.textOnly Go.Departure.lateStores }, { on := 2, ground := Go.Ground.textOnly Go.Departure.lateStores }, { on := 3, ground := Go.Ground.textOnly Go.Departure.lateStores }, { on := 4, ground := Go.Ground.textOnly Go.Departure.lateStores }, { on := 5, ground := Go.Ground.textOnly Go.Departure.lateStores }, { on := 6, ground := Go.Ground.textOnly Go.Departure.lateStores }, { on := 7, ground := Go.Ground.textOnly Go.Departure.lateStores }, { on := 8, ground := Go.Ground.textOnly Go.Departure.lateStores }, { on := 9, ground := Go.Ground.textOnly Go.Departure.lateStores }, { on := 10, ground := Go.Ground.textOnly Go.Departure.lateStores }, { on := 11, ground := Go.Ground.textOnly Go.Departure.lateStores }, { on := 12, ground := Go.Ground.textOnly Go.Departure.lateStores }, { on := 13, ground := Go.Ground.textOnly Go.Departure.lateStores }, { on := 14, ground := Go.Ground.textOnly Go.Departure.lateStoresUnsure }], guard := none }) rfl (fun K hK => ?_) AllReadyH.nil)
      obtain ⟨z0, z1, z2, z3, z4, z5, zf⟩ := is.ac
      go_simp
      have st := is.store hR.out hRA.out.1 (.int .i64 4) (.int .i64 1) (.int .i64 1) (.int .i64 1) (.int .i64 9) (.int .i64 0)
      clear z0 z1 z2 z3 z4 z5 zf
      replace is := st.1
      replace hR := hid1 st.2
      clear st
      refine hK.out _ _ (HS.out _ _ is) (fun hS1 => ?_)
      (try simp only [Act.put, List.setIfInBounds_toArray, List.set_cons_zero, List.set_cons_succ])
      clear hK K
      generalize World.setCell _ _ _ = w9 at *
      refine wpAnyH_take (i := 16) (oi := { dst := some 1, op := Go.Op.assign (Go.Operand.tmp 20), type := 25, pos := "law.go:17", after := #[{ on := 14, ground := Go.Ground.data }, { on := 15, ground := Go.Ground.chain }, { on := 0, ground := Go.Ground.phase }, { on := 1, ground := Go.Ground.phase }, { on := 2, ground := Go.Ground.phase }, { on := 3, ground := Go.Ground.phase }, { on := 4, ground := Go.Ground.phase }, { on := 5, ground := Go.Ground.phase }, { on := 6, ground := Go.Ground.phase }, { on := 7, ground := Go.Ground.phase }, { on := 8, ground := Go.Ground.phase }, { on := 9, ground := Go.Ground.phase }, { on := 10, ground := Go.Ground.phase }, { on := 11, ground := Go.Ground.phase }, { on := 12, ground := Go.Ground.phase }, { on := 13, ground := Go.Ground.phase }, { on := 14, ground := Go.Ground.phase }, { on := 15, ground := Go.Ground.phase }], guard := none }) (v := .slice (some ⟨R, 0, none⟩) 28 28) rfl (by kernel_rfl) (by kernel_rfl) (by kernel_rfl) (fun _ _ _ h => h) (Or.inl ⟨by rfl, fun w hSw => by (try dsimp only at hSw); go_simp⟩) hS1 ?_
      simp only [Act.put, List.setIfInBounds_toArray, List.set_cons_zero, List.set_cons_succ]
      refine wpAnyH_done (by kernel_rfl) ?_ _
      clear hS1
      obtain ⟨z0, z1, z2, z3, z4, z5, zf⟩ := is.ac
      go_wp2
      refine bodyPost_ret (v := .tuple #[.agg #[.int .i64 4, .int .i64 1, .int .i64 1, .int .i64 1, .int .i64 9, .int .i64 0], .slice (some ⟨R, 0, none⟩) 28 28]) (by simp [results, Tryz.results11, go_sem, z0, z1, z2, z3, z4, z5]) rfl ?_
      exact ⟨R, rfl, hR.out, hRA.out.2, is.bel⟩


  · go_simp
    have n3 := hid1 (new_obj w0 (.cells #[.int .u64 1] 26))
    replace is := is.below (alloc_below w0 (.cells #[.int .u64 1] 26))
    refine hK.out _ _ (HS.out _ _ is) (fun hS1 => ?_)
    (try simp only [Act.put, List.setIfInBounds_toArray, List.set_cons_zero, List.set_cons_succ])
    clear hK K
    generalize w0.heap.size = B3 at n3 ⊢
    generalize w0.alloc (.cells #[.int .u64 1] 26) = wa19 at *
    refine wpAnyH_ready (rs := [3, 6]) (by kernel_rfl) (by simp) (AllReadyH.cons (o := { dst := some 9, op := Go.Op.buildSlice 25 1 #[(0, Go.Operand.const (Go.Value.int Go.IntKind.u64 2))], type := 25, pos := "law.go:17", after := #[], guard := none }) rfl (fun K hK => ?_) (AllReadyH.cons (o := { dst := some 12, op := Go.Op.buildSlice 25 3 #[(0, Go.Operand.const (Go.Value.int Go.IntKind.u64 3)), (1, Go.Operand.const (Go.Value.int Go.IntKind.u64 1)), (2, Go.Operand.const (Go.Value.int Go.IntKind.u64 0))], type := 25, pos := "law.go:17", after := #[], guard := none }) rfl (fun K hK => ?_) AllReadyH.nil))
    · go_simp
      have n1 := hid1 (new_obj wa19 (.cells #[.int .u64 2] 26))
      replace n3 := hid1 (((alloc_below wa19 (.cells #[.int .u64 2] 26)).block _ (lt_of_block n3.out)).trans n3.out)
      replace is := is.below (alloc_below wa19 (.cells #[.int .u64 2] 26))
      refine hK.out _ _ (HS.out _ _ is) (fun hS1 => ?_)
      (try simp only [Act.put, List.setIfInBounds_toArray, List.set_cons_zero, List.set_cons_succ])
      clear hK K
      generalize wa19.heap.size = B1 at n1 ⊢
      generalize wa19.alloc (.cells #[.int .u64 2] 26) = wa20 at *
      refine wpAnyH_take (i := 4) (oi := { dst := some 10, op := Go.Op.build 66 #[(0, Go.Operand.tmp 8), (1, Go.Operand.tmp 9)], type := 66, pos := "law.go:17", after := #[{ on := 2, ground := Go.Ground.data }, { on := 3, ground := Go.Ground.data }], guard := none }) (v := .agg #[.int .i64 1, .int .i64 0, .bool false, .int .i64 1, .int .i64 0, .int .i64 0, .slice (some ⟨B1, 0, none⟩) 1 1]) rfl (by kernel_rfl) (by kernel_rfl) (by kernel_rfl) (fun _ _ _ h => h) (Or.inl ⟨by rfl, fun w hSw => by (try dsimp only at hSw); go_simp⟩) hS1 ?_
      simp only [Act.put, List.setIfInBounds_toArray, List.set_cons_zero, List.set_cons_succ]
      refine wpAnyH_ready (rs := [6]) (by kernel_rfl) (by simp) (AllReadyH.cons (o := { dst := some 12, op := Go.Op.buildSlice 25 3 #[(0, Go.Operand.const (Go.Value.int Go.IntKind.u64 3)), (1, Go.Operand.const (Go.Value.int Go.IntKind.u64 1)), (2, Go.Operand.const (Go.Value.int Go.IntKind.u64 0))], type := 25, pos := "law.go:17", after := #[], guard := none }) rfl (fun K hK => ?_) AllReadyH.nil)
      go_simp
      have n2 := hid1 (new_obj wa20 (.cells #[.int .u64 3, .int .u64 1, .int .u64 0] 26))
      replace n3 := hid1 (((alloc_below wa20 (.cells #[.int .u64 3, .int .u64 1, .int .u64 0] 26)).block _ (lt_of_block n3.out)).trans n3.out)
      replace n1 := hid1 (((alloc_below wa20 (.cells #[.int .u64 3, .int .u64 1, .int .u64 0] 26)).block _ (lt_of_block n1.out)).trans n1.out)
      replace is := is.below (alloc_below wa20 (.cells #[.int .u64 3, .int .u64 1, .int .u64 0] 26))
      refine hK.out _ _ (HS.out _ _ is) (fun hS1 => ?_)
      (try simp only [Act.put, List.setIfInBounds_toArray, List.set_cons_zero, List.set_cons_succ])
      clear hK K
      generalize wa20.heap.size = B2 at n2 ⊢
      generalize wa20.alloc (.cells #[.int .u64 3, .int .u64 1, .int .u64 0] 26) = wa21 at *
      refine wpAnyH_take (i := 7) (oi := { dst := some 13, op := Go.Op.build 66 #[(0, Go.Operand.tmp 11), (1, Go.Operand.tmp 12)], type := 66, pos := "law.go:17", after := #[{ on := 5, ground := Go.Ground.data }, { on := 6, ground := Go.Ground.data }], guard := none }) (v := .agg #[.int .i64 2, .int .i64 0, .bool false, .int .i64 0, .int .i64 0, .int .i64 0, .slice (some ⟨B2, 0, none⟩) 3 3]) rfl (by kernel_rfl) (by kernel_rfl) (by kernel_rfl) (fun _ _ _ h => h) (Or.inl ⟨by rfl, fun w hSw => by (try dsimp only at hSw); go_simp⟩) hS1 ?_
      simp only [Act.put, List.setIfInBounds_toArray, List.set_cons_zero, List.set_cons_succ]
      refine wpAnyH_ready (rs := [12]) (by kernel_rfl) (by simp) (AllReadyH.cons (o := { dst := some 18, op := Go.Op.buildSlice 24 4 #[(0, Go.Operand.tmp 10), (1, Go.Operand.tmp 13), (2, Go.Operand.tmp 15), (3, Go.Operand.tmp 17)], type := 24, pos := "law.go:17", after := #[{ on := 4, ground := Go.Ground.data }, { on := 7, ground := Go.Ground.data }, { on := 9, ground := Go.Ground.data }, { on := 11, ground := Go.Ground.data }], guard := none }) rfl (fun K hK => ?_) AllReadyH.nil)
      go_simp
      have n4 := hid1 (new_obj wa21 (.cells #[.int .i64 1, .int .i64 0, .bool false, .int .i64 1, .int .i64 0, .int .i64 0, .slice (some ⟨B1, 0, none⟩) 1 1, .int .i64 2, .int .i64 0, .bool false, .int .i64 0, .int .i64 0, .int .i64 0, .slice (some ⟨B2, 0, none⟩) 3 3, .int .i64 1, .int .i64 0, .bool false, .int .i64 1, .int .i64 0, .int .i64 0, .slice none 0 0, .int .i64 1, .int .i64 0, .bool false, .int .i64 1, .int .i64 0, .int .i64 0, .slice none 0 0] 66))
      replace n3 := hid1 (((alloc_below wa21 (.cells #[.int .i64 1, .int .i64 0, .bool false, .int .i64 1, .int .i64 0, .int .i64 0, .slice (some ⟨B1, 0, none⟩) 1 1, .int .i64 2, .int .i64 0, .bool false, .int .i64 0, .int .i64 0, .int .i64 0, .slice (some ⟨B2, 0, none⟩) 3 3, .int .i64 1, .int .i64 0, .bool false, .int .i64 1, .int .i64 0, .int .i64 0, .slice none 0 0, .int .i64 1, .int .i64 0, .bool false, .int .i64 1, .int .i64 0, .int .i64 0, .slice none 0 0] 66)).block _ (lt_of_block n3.out)).trans n3.out)
      replace n1 := hid1 (((alloc_below wa21 (.cells #[.int .i64 1, .int .i64 0, .bool false, .int .i64 1, .int .i64 0, .int .i64 0, .slice (some ⟨B1, 0, none⟩) 1 1, .int .i64 2, .int .i64 0, .bool false, .int .i64 0, .int .i64 0, .int .i64 0, .slice (some ⟨B2, 0, none⟩) 3 3, .int .i64 1, .int .i64 0, .bool false, .int .i64 1, .int .i64 0, .int .i64 0, .slice none 0 0, .int .i64 1, .int .i64 0, .bool false, .int .i64 1, .int .i64 0, .int .i64 0, .slice none 0 0] 66)).block _ (lt_of_block n1.out)).trans n1.out)
      replace n2 := hid1 (((alloc_below wa21 (.cells #[.int .i64 1, .int .i64 0, .bool false, .int .i64 1, .int .i64 0, .int .i64 0, .slice (some ⟨B1, 0, none⟩) 1 1, .int .i64 2, .int .i64 0, .bool false, .int .i64 0, .int .i64 0, .int .i64 0, .slice (some ⟨B2, 0, none⟩) 3 3, .int .i64 1, .int .i64 0, .bool false, .int .i64 1, .int .i64 0, .int .i64 0, .slice none 0 0, .int .i64 1, .int .i64 0, .bool false, .int .i64 1, .int .i64 0, .int .i64 0, .slice none 0 0] 66)).block _ (lt_of_block n2.out)).trans n2.out)
      replace is := is.below (alloc_below wa21 (.cells #[.int .i64 1, .int .i64 0, .bool false, .int .i64 1, .int .i64 0, .int .i64 0, .slice (some ⟨B1, 0, none⟩) 1 1, .int .i64 2, .int .i64 0, .bool false, .int .i64 0, .int .i64 0, .int .i64 0, .slice (some ⟨B2, 0, none⟩) 3 3, .int .i64 1, .int .i64 0, .bool false, .int .i64 1, .int .i64 0, .int .i64 0, .slice none 0 0, .int .i64 1, .int .i64 0, .bool false, .int .i64 1, .int .i64 0, .int .i64 0, .slice none 0 0] 66))
      refine hK.out _ _ (HS.out _ _ is) (fun hS1 => ?_)
      (try simp only [Act.put, List.setIfInBounds_toArray, List.set_cons_zero, List.set_cons_succ])
      clear hK K
      generalize wa21.heap.size = Q at n4 ⊢
      generalize wa21.alloc (.cells #[.int .i64 1, .int .i64 0, .bool false, .int .i64 1, .int .i64 0, .int .i64 0, .slice (some ⟨B1, 0, none⟩) 1 1, .int .i64 2, .int .i64 0, .bool false, .int .i64 0, .int .i64 0, .int .i64 0, .slice (some ⟨B2, 0, none⟩) 3 3, .int .i64 1, .int .i64 0, .bool false, .int .i64 1, .int .i64 0, .int .i64 0, .slice none 0 0, .int .i64 1, .int .i64 0, .bool false, .int .i64 1, .int .i64 0, .int .i64 0, .slice none 0 0] 66) = wa22 at *
      refine wpAnyH_ready (rs := [14]) (by kernel_rfl) (by simp) (AllReadyH.cons (o := { dst := some 20, op := Go.Op.call { callee := Go.Callee.value (Go.Operand.func 9), args := #[Go.Operand.tmp 7, Go.Operand.tmp 18, Go.Operand.tmp 19, Go.Operand.const (Go.Value.slice none 0 0)], argTypes := #[23, 24, 25, 25] }, type := 25, pos := "law.go:17", after := #[{ on := 1, ground := Go.Ground.data }, { on := 12, ground := Go.Ground.data }, { on := 13, ground := Go.Ground.data }], guard := none }) rfl (fun K hK => ?_) AllReadyH.nil)
      go_simp
      go_at_call 9
      with_reducible refine (sm_laid (hw.out.below is.bel) n1.out n2.out n3.out n4.out).mono ?_
      rintro r wL ⟨R, rfl, hR, hR1, b1⟩
      (try simp only [])
      have hRA := hid1 (is.ltR hR1)
      replace is := is.below b1
      clear b1 n1 n2 n3 n4 hR1
      replace hR := hid1 hR
      refine hK.out _ _ (HS.out _ _ is) (fun hS1 => ?_)
      (try simp only [Act.put, List.setIfInBounds_toArray, List.set_cons_zero, List.set_cons_succ])
      clear hK K
      refine wpAnyH_ready (rs := [15]) (by kernel_rfl) (by simp) (AllReadyH.cons (o := { dst := none, op := Go.Op.store 23 (Go.Operand.tmp 0) (Go.Operand.tmp 6), type := 0, pos := "law.go:17", after := #[{ on := 0, ground := Go.Ground.data }, { on := 14, ground := Go.Ground.chain }, { on := 0, ground := Go.Ground.phase }, { on := 1, ground := Go.Ground.textOnly Go.Departure.lateStores }, { on := 2, ground := Go.Ground.textOnly Go.Departure.lateStores }, { on := 3, ground := Go.Ground.textOnly Go.Departure.lateStores }, { on := 4, ground := Go.Ground.textOnly Go.Departure.lateStores }, { on := 5, ground := Go.Ground.textOnly Go.Departure.lateStores }, { on := 6, ground := Go.Ground.textOnly Go.Departure.lateStores }, { on := 7, ground := Go.Ground.textOnly Go.Departure.lateStores }, { on := 8, ground := Go.Ground.textOnly Go.Departure.lateStores }, { on := 9, ground := Go.Ground.textOnly Go.Departure.lateStores }, { on := 10, ground := Go.Ground.textOnly Go.Departure.lateStores }, { on := 11, ground := Go.Ground.textOnly Go.Departure.lateStores }, { on := 12, ground := Go.Ground.textOnly Go.Departure.lateStores }, { on := 13, ground := Go.Ground.textOnly Go.Departure.lateStores }, { on := 14, ground := Go.Ground.textOnly Go.Departure.lateStoresUnsure }], guard := none }) rfl (fun K hK => ?_) AllReadyH.nil)
      obtain ⟨z0, z1, z2, z3, z4, z5, zf⟩ := is.ac
      go_simp
      have st := is.store hR.out hRA.out.1 (.int .i64 4) (.int .i64 1) (.int .i64 1) (.int .i64 1) (.int .i64 9) (.int .i64 0)
      clear z0 z1 z2 z3 z4 z5 zf
      replace is := st.1
      replace hR := hid1 st.2
      clear st
      refine hK.out _ _ (HS.out _ _ is) (fun hS1 => ?_)
      (try simp only [Act.put, List.setIfInBounds_toArray, List.set_cons_zero, List.set_cons_succ])
      clear hK K
      generalize World.setCell _ _ _ = w9 at *
      refine wpAnyH_take (i := 16) (oi := { dst := some 1, op := Go.Op.assign (Go.Operand.tmp 20), type := 25, pos := "law.go:17", after := #[{ on := 14, ground := Go.Ground.data }, { on := 15, ground := Go.Ground.chain }, { on := 0, ground := Go.Ground.phase }, { on := 1, ground := Go.Ground.phase }, { on := 2, ground := Go.Ground.phase }, { on := 3, ground := Go.Ground.phase }, { on := 4, ground := Go.Ground.phase }, { on := 5, ground := Go.Ground.phase }, { on := 6, ground := Go.Ground.phase }, { on := 7, ground := Go.Ground.phase }, { on := 8, ground := Go.Ground.phase }, { on := 9, ground := Go.Ground.phase }, { on := 10, ground := Go.Ground.phase }, { on := 11, ground := Go.Ground.phase }, { on := 12, ground := Go.Ground.phase }, { on := 13, ground := Go.Ground.phase }, { on := 14, ground := Go.Ground.phase }, { on := 15, ground := Go.Ground.phase }], guard := none }) (v := .slice (some ⟨R, 0, none⟩) 28 28) rfl (by kernel_rfl) (by kernel_rfl) (by kernel_rfl) (fun _ _ _ h => h) (Or.inl ⟨by rfl, fun w hSw => by (try dsimp only at hSw); go_simp⟩) hS1 ?_
      simp only [Act.put, List.setIfInBounds_toArray, List.set_cons_zero, List.set_cons_succ]
      refine wpAnyH_done (by kernel_rfl) ?_ _
      clear hS1
      obtain ⟨z0, z1, z2, z3, z4, z5, zf⟩ := is.ac
      go_wp2
      refine bodyPost_ret (v := .tuple #[.agg #[.int .i64 4, .int .i64 1, .int .i64 1, .int .i64 1, .int .i64 9, .int .i64 0], .slice (some ⟨R, 0, none⟩) 28 28]) (by simp [results, Tryz.results11, go_sem, z0, z1, z2, z3, z4, z5]) rfl ?_
      exact ⟨R, rfl, hR.out, hRA.out.2, is.bel⟩

    · go_simp
      have n2 := hid1 (new_obj wa19 (.cells #[.int .u64 3, .int .u64 1, .int .u64 0] 26))
      replace n3 := hid1 (((alloc_below wa19 (.cells #[.int .u64 3, .int .u64 1, .int .u64 0] 26)).block _ (lt_of_block n3.out)).trans n3.out)
      replace is := is.below (alloc_below wa19 (.cells #[.int .u64 3, .int .u64 1, .int .u64 0] 26))
      refine hK.out _ _ (HS.out _ _ is) (fun hS1 => ?_)
      (try simp only [Act.put, List.setIfInBounds_toArray, List.set_cons_zero, List.set_cons_succ])
      clear hK K
      generalize wa19.heap.size = B2 at n2 ⊢
      generalize wa19.alloc (.cells #[.int .u64 3, .int .u64 1, .int .u64 0] 26) = wa23 at *
      refine wpAnyH_take (i := 7) (oi := { dst := some 13, op := Go.Op.build 66 #[(0, Go.Operand.tmp 11), (1, Go.Operand.tmp 12)], type := 66, pos := "law.go:17", after := #[{ on := 5, ground := Go.Ground.data }, { on := 6, ground := Go.Ground.data }], guard := none }) (v := .agg #[.int .i64 2, .int .i64 0, .bool false, .int .i64 0, .int .i64 0, .int .i64 0, .slice (some ⟨B2, 0, none⟩) 3 3]) rfl (by kernel_rfl) (by kernel_rfl) (by kernel_rfl) (fun _ _ _ h => h) (Or.inl ⟨by rfl, fun w hSw => by (try dsimp only at hSw); go_simp⟩) hS1 ?_
      simp only [Act.put, List.setIfInBounds_toArray, List.set_cons_zero, List.set_cons_succ]
      refine wpAnyH_ready (rs := [3]) (by kernel_rfl) (by simp) (AllReadyH.cons (o := { dst := some 9, op := Go.Op.buildSlice 25 1 #[(0, Go.Operand.const (Go.Value.int Go.IntKind.u64 2))], type := 25, pos := "law.go:17", after := #[], guard := none }) rfl (fun K hK => ?_) AllReadyH.nil)
      go_simp
      have n1 := hid1 (new_obj wa23 (.cells #[.int .u64 2] 26))
      replace n3 := hid1 (((alloc_below wa23 (.cells #[.int .u64 2] 26)).block _ (lt_of_block n3.out)).trans n3.out)
      replace n2 := hid1 (((alloc_below wa23 (.cells #[.int .u64 2] 26)).block _ (lt_of_block n2.out)).trans n2.out)
      replace is := is.below (alloc_below wa23 (.cells #[.int .u64 2] 26))
      refine hK.out _ _ (HS.out _ _ is) (fun hS1 => ?_)
      (try simp only [Act.put, List.setIfInBounds_toArray, List.set_cons_zero, List.set_cons_succ])
      clear hK K
      generalize wa23.heap.size = B1 at n1 ⊢
      generalize wa23.alloc (.cells #[.int .u64 2] 26) = wa24 at *
      refine wpAnyH_take (i := 4) (oi := { dst := some 10, op := Go.Op.build 66 #[(0, Go.Operand.tmp 8), (1, Go.Operand.tmp 9)], type := 66, pos := "law.go:17", after := #[{ on := 2, ground := Go.Ground.data }, { on := 3, ground := Go.Ground.data }], guard := none }) (v := .agg #[.int .i64 1, .int .i64 0, .bool false, .int .i64 1, .int .i64 0, .int .i64 0, .slice (some ⟨B1, 0, none⟩) 1 1]) rfl (by kernel_rfl) (by kernel_rfl) (by kernel_rfl) (fun _ _ _ h => h) (Or.inl ⟨by rfl, fun w hSw => by (try dsimp only at hSw); go_simp⟩) hS1 ?_
      simp only [Act.put, List.setIfInBounds_toArray, List.set_cons_zero, List.set_cons_succ]
      refine wpAnyH_ready (rs := [12]) (by kernel_rfl) (by simp) (AllReadyH.cons (o := { dst := some 18, op := Go.Op.buildSlice 24 4 #[(0, Go.Operand.tmp 10), (1, Go.Operand.tmp 13), (2, Go.Operand.tmp 15), (3, Go.Operand.tmp 17)], type := 24, pos := "law.go:17", after := #[{ on := 4, ground := Go.Ground.data }, { on := 7, ground := Go.Ground.data }, { on := 9, ground := Go.Ground.data }, { on := 11, ground := Go.Ground.data }], guard := none }) rfl (fun K hK => ?_) AllReadyH.nil)
      go_simp
      have n4 := hid1 (new_obj wa24 (.cells #[.int .i64 1, .int .i64 0, .bool false, .int .i64 1, .int .i64 0, .int .i64 0, .slice (some ⟨B1, 0, none⟩) 1 1, .int .i64 2, .int .i64 0, .bool false, .int .i64 0, .int .i64 0, .int .i64 0, .slice (some ⟨B2, 0, none⟩) 3 3, .int .i64 1, .int .i64 0, .bool false, .int .i64 1, .int .i64 0, .int .i64 0, .slice none 0 0, .int .i64 1, .int .i64 0, .bool false, .int .i64 1, .int .i64 0, .int .i64 0, .slice none 0 0] 66))
      replace n3 := hid1 (((alloc_below wa24 (.cells #[.int .i64 1, .int .i64 0, .bool false, .int .i64 1, .int .i64 0, .int .i64 0, .slice (some ⟨B1, 0, none⟩) 1 1, .int .i64 2, .int .i64 0, .bool false, .int .i64 0, .int .i64 0, .int .i64 0, .slice (some ⟨B2, 0, none⟩) 3 3, .int .i64 1, .int .i64 0, .bool false, .int .i64 1, .int .i64 0, .int .i64 0, .slice none 0 0, .int .i64 1, .int .i64 0, .bool false, .int .i64 1, .int .i64 0, .int .i64 0, .slice none 0 0] 66)).block _ (lt_of_block n3.out)).trans n3.out)
      replace n2 := hid1 (((alloc_below wa24 (.cells #[.int .i64 1, .int .i64 0, .bool false, .int .i64 1, .int .i64 0, .int .i64 0, .slice (some ⟨B1, 0, none⟩) 1 1, .int .i64 2, .int .i64 0, .bool false, .int .i64 0, .int .i64 0, .int .i64 0, .slice (some ⟨B2, 0, none⟩) 3 3, .int .i64 1, .int .i64 0, .bool false, .int .i64 1, .int .i64 0, .int .i64 0, .slice none 0 0, .int .i64 1, .int .i64 0, .bool false, .int .i64 1, .int .i64 0, .int .i64 0, .slice none 0 0] 66)).block _ (lt_of_block n2.out)).trans n2.out)
      replace n1 := hid1 (((alloc_below wa24 (.cells #[.int .i64 1, .int .i64 0, .bool false, .int .i64 1, .int .i64 0, .int .i64 0, .slice (some ⟨B1, 0, none⟩) 1 1, .int .i64 2, .int .i64 0, .bool false, .int .i64 0, .int .i64 0, .int .i64 0, .slice (some ⟨B2, 0, none⟩) 3 3, .int .i64 1, .int .i64 0, .bool false, .int .i64 1, .int .i64 0, .int .i64 0, .slice none 0 0, .int .i64 1, .int .i64 0, .bool false, .int .i64 1, .int .i64 0, .int .i64 0, .slice none 0 0] 66)).block _ (lt_of_block n1.out)).trans n1.out)
      replace is := is.below (alloc_below wa24 (.cells #[.int .i64 1, .int .i64 0, .bool false, .int .i64 1, .int .i64 0, .int .i64 0, .slice (some ⟨B1, 0, none⟩) 1 1, .int .i64 2, .int .i64 0, .bool false, .int .i64 0, .int .i64 0, .int .i64 0, .slice (some ⟨B2, 0, none⟩) 3 3, .int .i64 1, .int .i64 0, .bool false, .int .i64 1, .int .i64 0, .int .i64 0, .slice none 0 0, .int .i64 1, .int .i64 0, .bool false, .int .i64 1, .int .i64 0, .int .i64 0, .slice none 0 0] 66))
      refine hK.out _ _ (HS.out _ _ is) (fun hS1 => ?_)
      (try simp only [Act.put, List.setIfInBounds_toArray, List.set_cons_zero, List.set_cons_succ])
      clear hK K
      generalize wa24.heap.size = Q at n4 ⊢
      generalize wa24.alloc (.cells #[.int .i64 1, .int .i64 0, .bool false, .int .i64 1, .int .i64 0, .int .i64 0, .slice (some ⟨B1, 0, none⟩) 1 1, .int .i64 2, .int .i64 0, .bool false, .int .i64 0, .int .i64 0, .int .i64 0, .slice (some ⟨B2, 0, none⟩) 3 3, .int .i64 1, .int .i64 0, .bool false, .int .i64 1, .int .i64 0, .int .i64 0, .slice none 0 0, .int .i64 1, .int .i64 0, .bool false, .int .i64 1, .int .i64 0, .int .i64 0, .slice none 0 0] 66) = wa25 at *
      refine wpAnyH_ready (rs := [14]) (by kernel_rfl) (by simp) (AllReadyH.cons (o := { dst := some 20, op := Go.Op.call { callee := Go.Callee.value (Go.Operand.func 9), args := #[Go.Operand.tmp 7, Go.Operand.tmp 18, Go.Operand.tmp 19, Go.Operand.const (Go.Value.slice none 0 0)], argTypes := #[23, 24, 25, 25] }, type := 25, pos := "law.go:17", after := #[{ on := 1, ground := Go.Ground.data }, { on := 12, ground := Go.Ground.data }, { on := 13, ground := Go.Ground.data }], guard := none }) rfl (fun K hK => ?_) AllReadyH.nil)
      go_simp
      go_at_call 9
      with_reducible refine (sm_laid (hw.out.below is.bel) n1.out n2.out n3.out n4.out).mono ?_
      rintro r wL ⟨R, rfl, hR, hR1, b1⟩
      (try simp only [])
      have hRA := hid1 (is.ltR hR1)
      replace is := is.below b1
      clear b1 n1 n2 n3 n4 hR1
      replace hR := hid1 hR
      refine hK.out _ _ (HS.out _ _ is) (fun hS1 => ?_)
      (try simp only [Act.put, List.setIfInBounds_toArray, List.set_cons_zero, List.set_cons_succ])
      clear hK K
      refine wpAnyH_ready (rs := [15]) (by kernel_rfl) (by simp) (AllReadyH.cons (o := { dst := none, op := Go.Op.store 23 (Go.Operand.tmp 0) (Go.Operand.tmp 6), type := 0, pos := "law.go:17", after := #[{ on := 0, ground := Go.Ground.data }, { on := 14, ground := Go.Ground.chain }, { on := 0, ground := Go.Ground.phase }, { on := 1, ground := Go.Ground.textOnly Go.Departure.lateStores }, { on := 2, ground := Go.Ground.textOnly Go.Departure.lateStores }, { on := 3, ground := Go.Ground.textOnly Go.Departure.lateStores }, { on := 4, ground := Go.Ground.textOnly Go.Departure.lateStores }, { on := 5, ground := Go.Ground.textOnly Go.Departure.lateStores }, { on := 6, ground := Go.Ground.textOnly Go.Departure.lateStores }, { on := 7, ground := Go.Ground.textOnly Go.Departure.lateStores }, { on := 8, ground := Go.Ground.textOnly Go.Departure.lateStores }, { on := 9, ground := Go.Ground.textOnly Go.Departure.lateStores }, { on := 10, ground := Go.Ground.textOnly Go.Departure.lateStores }, { on := 11, ground := Go.Ground.textOnly Go.Departure.lateStores }, { on := 12, ground := Go.Ground.textOnly Go.Departure.lateStores }, { on := 13, ground := Go.Ground.textOnly Go.Departure.lateStores }, { on := 14, ground := Go.Ground.textOnly Go.Departure.lateStoresUnsure }], guard := none }) rfl (fun K hK => ?_) AllReadyH.nil)
      obtain ⟨z0, z1, z2, z3, z4, z5, zf⟩ := is.ac
      go_simp
      have st := is.store hR.out hRA.out.1 (.int .i64 4) (.int .i64 1) (.int .i64 1) (.int .i64 1) (.int .i64 9) (.int .i64 0)
      clear z0 z1 z2 z3 z4 z5 zf
      replace is := st.1
      replace hR := hid1 st.2
      clear st
      refine hK.out _ _ (HS.out _ _ is) (fun hS1 => ?_)
      (try simp only [Act.put, List.setIfInBounds_toArray, List.set_cons_zero, List.set_cons_succ])
      clear hK K
      generalize World.setCell _ _ _ = w9 at *
      refine wpAnyH_take (i := 16) (oi := { dst := some 1, op := Go.Op.assign (Go.Operand.tmp 20), type := 25, pos := "law.go:17", after := #[{ on := 14, ground := Go.Ground.data }, { on := 15, ground := Go.Ground.chain }, { on := 0, ground := Go.Ground.phase }, { on := 1, ground := Go.Ground.phase }, { on := 2, ground := Go.Ground.phase }, { on := 3, ground := Go.Ground.phase }, { on := 4, ground := Go.Ground.phase }, { on := 5, ground := Go.Ground.phase }, { on := 6, ground := Go.Ground.phase }, { on := 7, ground := Go.Ground.phase }, { on := 8, ground := Go.Ground.phase }, { on := 9, ground := Go.Ground.phase }, { on := 10, ground := Go.Ground.phase }, { on := 11, ground := Go.Ground.phase }, { on := 12, ground := Go.Ground.phase }, { on := 13, ground := Go.Ground.phase }, { on := 14, ground := Go.Ground.phase }, { on := 15, ground := Go.Ground.phase }], guard := none }) (v := .slice (some ⟨R, 0, none⟩) 28 28) rfl (by kernel_rfl) (by kernel_rfl) (by kernel_rfl) (fun _ _ _ h => h) (Or.inl ⟨by rfl, fun w hSw => by (try dsimp only at hSw); go_simp⟩) hS1 ?_
      simp only [Act.put, List.setIfInBounds_toArray, List.set_cons_zero, List.set_cons_succ]
      refine wpAnyH_done (by kernel_rfl) ?_ _
      clear hS1
      obtain ⟨z0, z1, z2, z3, z4, z5, zf⟩ := is.ac
      go_wp2
      refine bodyPost_ret (v := .tuple #[.agg #[.int .i64 4, .int .i64 1, .int .i64 1, .int .i64 1, .int .i64 9, .int .i64 0], .slice (some ⟨R, 0, none⟩) 28 28]) (by simp [results, Tryz.results11, go_sem, z0, z1, z2, z3, z4, z5]) rfl ?_
      exact ⟨R, rfl, hR.out, hRA.out.2, is.bel⟩



end Go.Proofs.YtcioomopgdhlmaaGreatDoor
