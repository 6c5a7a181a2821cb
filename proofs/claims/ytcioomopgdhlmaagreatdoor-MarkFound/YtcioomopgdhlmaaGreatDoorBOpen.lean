/- Slots and words that came in. -/
import Derived.Test.YtcioomopgdhlmaaGreatDoorBLd0
import Derived.ProofKit
import Derived.Deep.Slices
namespace Go.Proofs.YtcioomopgdhlmaaGreatDoor
open Go.ChangeShapes Go.WideShapes Go.ChangeAt Go.RowKit Go.Deep
open Hh (WT)
set_option linter.unusedVariables false
namespace Op2
theorem cellsI : Tryz.prog.cellsOf 3 = 1 := by kernel_rfl
theorem cellsB : Tryz.prog.cellsOf 4 = 1 := by kernel_rfl
theorem cellsU : Tryz.prog.cellsOf 26 = 1 := by kernel_rfl
theorem cellsH : Tryz.prog.cellsOf 57 = 6 := by kernel_rfl
theorem cellsL : Tryz.prog.cellsOf 25 = 1 := by kernel_rfl
theorem cellsV : Tryz.prog.cellsOf 66 = 7 := by kernel_rfl
theorem choose_lt' {α : Type} {len : Nat} (h0 : 0 < len) {p : Nat → α → Prop} (h : ∀ i, i < len → ∃ z, p i z) : ∃ Z : Nat → α, ∀ i, i < len → p i (Z i) := by
  obtain ⟨z0, _⟩ := h 0 h0
  exact ⟨fun i => if hi : i < len then Classical.choose (h i hi) else z0, fun i hi => by simp only [hi, dite_true]; exact Classical.choose_spec (h i hi)⟩
theorem add_none (b o i : Nat) : (⟨b, o, none⟩ : Addr).add i = ⟨b, o + i, none⟩ := by simp [Addr.add]
theorem open_u64s {H : Type} {enc : TypeId × Value → H} {w : World} {v : Value} {fuel : Nat} {x : DataW H × List MemPlace}
    (h : DataW.trod enc Tryz.prog w 0 (fun _ => true) true fuel 25 [v] = some x) : ∃ (ad : Option Addr) (len cap : Nat) (b : Nat → Nat), v = .slice ad len cap ∧ len ≤ maxLen ∧ RdU w ad len b := by
  rcases open_slice1 Tryz.underlying25 cellsU h with ⟨h0, _⟩ | ⟨a, len', cap', m, n, V, D, Pl, hcs, hb, hl, hm, hmm, hx, hV⟩
  · simp only [List.cons.injEq, and_true] at h0
    subst h0
    exact ⟨none, 0, 0, fun _ => 0, rfl, Nat.zero_le _, fun i hi => by omega⟩
  · simp only [List.cons.injEq, and_true] at hcs
    subst hcs
    simp only [if_true] at hmm
    subst hmm
    rcases Nat.eq_zero_or_pos len' with h0 | h0
    · exact ⟨_, _, _, fun _ => 0, rfl, by omega, fun i hi => by omega⟩
    · obtain ⟨Z, hZ⟩ := choose_lt' h0 (p := fun i (z : Nat) => V i = .int .u64 (z : Nat) ∧ z < 18446744073709551616) fun i hi => by
        obtain ⟨z, e, -, hw⟩ := DataW.trod_int Tryz.underlying26 (hV i (by omega)).2
        simp only [List.cons.injEq, and_true] at e
        obtain ⟨n4, rfl, b4⟩ := Tg.u64_nat hw
        exact ⟨n4, e, b4⟩
      obtain ⟨b, off, spot⟩ := a
      have hspot : spot = none := by simpa [Addr.add] using World.cell?_spot (hV 0 (by omega)).1
      subst hspot
      refine ⟨_, _, _, Z, rfl, Nat.le_trans hl hm, fun i hi => ⟨b, off, rfl, ?_, ?_, (hZ i hi).2⟩⟩
      · have hc := (hV i (by omega)).1
        rw [add_none] at hc
        exact Hh.lt_of_cell hc
      · have hc := (hV i (by omega)).1
        rw [add_none, (hZ i hi).1] at hc
        exact hc
set_option maxRecDepth 100000 in
theorem open_slots {H : Type} {enc : TypeId × Value → H} {w : World} {ad : Option Addr} {len cap fuel : Nat} {x : DataW H × List MemPlace}
    (h : DataW.trod enc Tryz.prog w 0 (fun _ => true) true fuel 24 [.slice ad len cap] = some x) : ∃ Z : Nat → Sv, RdV w ad len Z ∧ len ≤ maxLen := by
  rcases open_slice Tryz.underlying24 h with ⟨hcs, _⟩ | ⟨a, len', cap', m, n, D, Pl, hcs, _, hl, hm, hmm, _, hx⟩
  · simp only [List.cons.injEq, Value.slice.injEq, and_true] at hcs
    obtain ⟨rfl, rfl, rfl⟩ := hcs
    exact ⟨fun _ => ⟨⟨0, 0, false, 0, 0, 0⟩, 0, fun _ => 0⟩, fun i hi => by omega, Nat.zero_le _⟩
  · simp only [List.cons.injEq, Value.slice.injEq, and_true] at hcs
    obtain ⟨rfl, rfl, rfl⟩ := hcs
    simp only [if_true] at hmm
    subst hmm
    rcases Nat.eq_zero_or_pos len with h0 | h0
    · exact ⟨fun _ => ⟨⟨0, 0, false, 0, 0, 0⟩, 0, fun _ => 0⟩, fun i hi => by omega, by omega⟩
    · have each : ∀ i, i < len → ∃ q : Sv, (w.cell? (a.add (i * 7)) = some (.int .i64 q.h.k) ∧ w.cell? (a.add (i * 7 + 1)) = some (.int .i64 q.h.m) ∧ w.cell? (a.add (i * 7 + 2)) = some (.bool q.h.g) ∧ w.cell? (a.add (i * 7 + 3)) = some (.int .i64 q.h.a) ∧ w.cell? (a.add (i * 7 + 4)) = some (.int .i64 q.h.n) ∧ w.cell? (a.add (i * 7 + 5)) = some (.int .i64 q.h.s)) ∧ ∃ bad bcap, w.cell? (a.add (i * 7 + 6)) = some (.slice bad q.bl bcap) ∧ q.bl ≤ maxLen ∧ RdU w bad q.bl q.b := by
        intro i hi
        obtain ⟨cs', h1, h2⟩ := hx i (by omega)
        rw [cellsV] at h1
        obtain ⟨_, hlen, hcell⟩ := World.cells?_some h1
        obtain ⟨xs, k, hk, hxy, _, hxl, hf⟩ := DataW.trod_struct Tryz.underlying66 h2
        match xs, hxl, cs', hlen with
        | [y0, y1], _, [v0, v1, v2, v3, v4, v5, v6], _ =>
          have g0 : DataW.trod enc Tryz.prog w 0 (fun _ => true) true k 57 (([v0, v1, v2, v3, v4, v5, v6].drop 0).take (Tryz.prog.cellsOf 57)) = some y0 := hf 0 _ rfl
          have g1 : DataW.trod enc Tryz.prog w 0 (fun _ => true) true k 25 (([v0, v1, v2, v3, v4, v5, v6].drop 6).take (Tryz.prog.cellsOf 25)) = some y1 := hf 1 _ rfl
          rw [cellsH] at g0
          rw [cellsL] at g1
          have g0' : DataW.trod enc Tryz.prog w 0 (fun _ => true) true k 57 [v0, v1, v2, v3, v4, v5] = some y0 := g0
          have g1' : DataW.trod enc Tryz.prog w 0 (fun _ => true) true k 25 [v6] = some y1 := g1
          obtain ⟨xs2, k2, hk2, hxy2, _, hxl2, hf2⟩ := DataW.trod_struct Tryz.underlying57 g0'
          match xs2, hxl2 with
          | [x0, x1, x2, x3, x4, x5], _ =>
            have f0 : DataW.trod enc Tryz.prog w 0 (fun _ => true) true k2 3 (([v0, v1, v2, v3, v4, v5].drop 0).take (Tryz.prog.cellsOf 3)) = some x0 := hf2 0 _ rfl
            have f1 : DataW.trod enc Tryz.prog w 0 (fun _ => true) true k2 3 (([v0, v1, v2, v3, v4, v5].drop 1).take (Tryz.prog.cellsOf 3)) = some x1 := hf2 1 _ rfl
            have f2 : DataW.trod enc Tryz.prog w 0 (fun _ => true) true k2 4 (([v0, v1, v2, v3, v4, v5].drop 2).take (Tryz.prog.cellsOf 4)) = some x2 := hf2 2 _ rfl
            have f3 : DataW.trod enc Tryz.prog w 0 (fun _ => true) true k2 3 (([v0, v1, v2, v3, v4, v5].drop 3).take (Tryz.prog.cellsOf 3)) = some x3 := hf2 3 _ rfl
            have f4 : DataW.trod enc Tryz.prog w 0 (fun _ => true) true k2 3 (([v0, v1, v2, v3, v4, v5].drop 4).take (Tryz.prog.cellsOf 3)) = some x4 := hf2 4 _ rfl
            have f5 : DataW.trod enc Tryz.prog w 0 (fun _ => true) true k2 3 (([v0, v1, v2, v3, v4, v5].drop 5).take (Tryz.prog.cellsOf 3)) = some x5 := hf2 5 _ rfl
            rw [cellsI] at f0 f1 f3 f4 f5
            rw [cellsB] at f2
            obtain ⟨z0, e0, -, _⟩ := DataW.trod_int Tryz.underlying3 (x := x0) f0
            obtain ⟨z1, e1, -, _⟩ := DataW.trod_int Tryz.underlying3 (x := x1) f1
            obtain ⟨z2, e2, -⟩ := DataW.trod_bool Tryz.underlying4 (x := x2) f2
            obtain ⟨z3, e3, -, _⟩ := DataW.trod_int Tryz.underlying3 (x := x3) f3
            obtain ⟨z4, e4, -, _⟩ := DataW.trod_int Tryz.underlying3 (x := x4) f4
            obtain ⟨z5, e5, -, _⟩ := DataW.trod_int Tryz.underlying3 (x := x5) f5
            simp at e0 e1 e2 e3 e4 e5
            subst e0 e1 e2 e3 e4 e5
            obtain ⟨bad, bl, bcap, b, rfl, hbl, hrd⟩ := open_u64s g1'
            have d0 := hcell 0 (by omega)
            have d1 := hcell 1 (by omega)
            have d2 := hcell 2 (by omega)
            have d3 := hcell 3 (by omega)
            have d4 := hcell 4 (by omega)
            have d5 := hcell 5 (by omega)
            have d6 := hcell 6 (by omega)
            rw [Go.Deep.add_add] at d0 d1 d2 d3 d4 d5 d6
            exact ⟨⟨⟨z0, z1, z2, z3, z4, z5⟩, bl, b⟩, ⟨by simpa using d0, by simpa using d1, by simpa using d2, by simpa using d3, by simpa using d4, by simpa using d5⟩, bad, bcap, by simpa using d6, hbl, hrd⟩
      obtain ⟨q, hq⟩ := choose_lt' h0 each
      obtain ⟨b, off, spot⟩ := a
      have hspot : spot = none := by simpa [Addr.add] using World.cell?_spot (hq 0 (by omega)).1.1
      subst hspot
      refine ⟨q, fun i hi => ?_, Nat.le_trans hl hm⟩
      obtain ⟨⟨k0, k1, k2, k3, k4, k5⟩, bad, bcap, k6, hbl, hrd⟩ := hq i hi
      rw [add_none] at k0 k1 k2 k3 k4 k5 k6
      refine ⟨b, off, rfl, Hh.lt_of_cell k0, ⟨k0, by simpa [Nat.add_assoc] using k1, by simpa [Nat.add_assoc] using k2, by simpa [Nat.add_assoc] using k3, by simpa [Nat.add_assoc] using k4, by simpa [Nat.add_assoc] using k5⟩, bad, bcap, by simpa [Nat.add_assoc] using k6, by unfold maxLen at hbl; omega, hrd⟩
end Op2
end Go.Proofs.YtcioomopgdhlmaaGreatDoor
