/- Slices that came in, opened: of whole numbers, of headers. -/
import Derived.Test.YtpfcpkkillklkaaDoorDPlays
import Derived.ProofKit
import Derived.Deep.Slices
namespace Go.Proofs.YtpfcpkkillklkaaDoor
open Go.ChangeShapes Go.WideShapes Go.ChangeAt Go.RowKit Go.Deep

theorem cellsI : Tryd.prog.cellsOf 3 = 1 := by kernel_rfl
theorem cellsB : Tryd.prog.cellsOf 4 = 1 := by kernel_rfl
theorem cellsH : Tryd.prog.cellsOf 46 = 6 := by kernel_rfl
theorem choose_lt' {α : Type} {len : Nat} (h0 : 0 < len) {p : Nat → α → Prop} (h : ∀ i, i < len → ∃ z, p i z) : ∃ Z : Nat → α, ∀ i, i < len → p i (Z i) := by
  obtain ⟨z0, _⟩ := h 0 h0
  exact ⟨fun i => if hi : i < len then Classical.choose (h i hi) else z0, fun i hi => by simp only [hi, dite_true]; exact Classical.choose_spec (h i hi)⟩

theorem open_ints {H : Type} {enc : TypeId × Value → H} {w : World} {ad : Option Addr} {len cap fuel : Nat} {x : DataW H × List MemPlace}
    (h : DataW.trod enc Tryd.prog w 0 (fun _ => true) true fuel 26 [.slice ad len cap] = some x) : ∃ Z : Nat → Int, RdI w ad len Z ∧ len ≤ maxLen := by
  rcases open_slice1 Tryd.underlying26 cellsI h with ⟨h0, _⟩ | ⟨a, len', cap', m, n, V, D, Pl, hcs, hb, hl, hm, hmm, hx, hV⟩
  · simp only [List.cons.injEq, Value.slice.injEq, and_true] at h0
    obtain ⟨rfl, rfl, rfl⟩ := h0
    exact ⟨fun _ => 0, fun i hi => by omega, Nat.zero_le _⟩
  · simp only [List.cons.injEq, Value.slice.injEq, and_true] at hcs
    obtain ⟨rfl, rfl, rfl⟩ := hcs
    simp only [if_true] at hmm
    subst hmm
    rcases Nat.eq_zero_or_pos len with h0 | h0
    · exact ⟨fun _ => 0, fun i hi => by omega, by omega⟩
    · obtain ⟨Z, hZ⟩ := choose_lt' h0 (p := fun i (z : Int) => V i = .int .i64 z) fun i hi => by
        obtain ⟨z, e, -, hw⟩ := DataW.trod_int Tryd.underlying3 (hV i (by omega)).2
        simp only [List.cons.injEq, and_true] at e
        exact ⟨z, e⟩
      obtain ⟨b, off, spot⟩ := a
      have hspot : spot = none := by simpa [Addr.add] using World.cell?_spot (hV 0 (by omega)).1
      subst hspot
      refine ⟨Z, fun i hi => ⟨b, off, rfl, ?_, ?_⟩, Nat.le_trans hl hm⟩
      · have hc := (hV i (by omega)).1
        rw [Mm.add_none] at hc
        exact Hh.lt_of_cell hc
      · have hc := (hV i (by omega)).1
        rw [Mm.add_none, hZ i hi] at hc
        exact hc

theorem open_heads {H : Type} {enc : TypeId × Value → H} {w : World} {ad : Option Addr} {len cap fuel : Nat} {x : DataW H × List MemPlace}
    (h : DataW.trod enc Tryd.prog w 0 (fun _ => true) true fuel 24 (Value.slice ad len cap).cells.toList = some x) : ∃ Z : Nat → Hv, RdH w ad len Z := by
  rcases open_slice Tryd.underlying24 h with ⟨hcs, _⟩ | ⟨a, l, c, m, n, D, Pl, hcs, _, hl, _, hmm, _, hx⟩
  · simp [Value.cells] at hcs
    exact ⟨fun _ => ⟨0, 0, false, 0, 0, 0⟩, fun i hi => by omega⟩
  · simp [Value.cells] at hcs
    obtain ⟨rfl, rfl, rfl⟩ := hcs
    rcases Nat.eq_zero_or_pos len with h0 | h0
    · exact ⟨fun _ => ⟨0, 0, false, 0, 0, 0⟩, fun i hi => by omega⟩
    have hlm : len ≤ m := by rw [hmm]; simpa using hl
    have each : ∀ i, i < len → ∃ q : Hv, w.cell? (a.add (i * 6)) = some (.int .i64 q.k) ∧ w.cell? (a.add (i * 6 + 1)) = some (.int .i64 q.m) ∧ w.cell? (a.add (i * 6 + 2)) = some (.bool q.g) ∧ w.cell? (a.add (i * 6 + 3)) = some (.int .i64 q.a) ∧ w.cell? (a.add (i * 6 + 4)) = some (.int .i64 q.n) ∧ w.cell? (a.add (i * 6 + 5)) = some (.int .i64 q.s) := by
      intro i hi
      obtain ⟨cs', h1, h2⟩ := hx i (by omega)
      rw [cellsH] at h1
      obtain ⟨_, hlen, hcell⟩ := World.cells?_some h1
      obtain ⟨xs, k, hk, hxy, _, hxl, hf⟩ := DataW.trod_struct Tryd.underlying46 h2
      match xs, hxl, cs', hlen with
      | [y0, y1, y2, y3, y4, y5], _, [v0, v1, v2, v3, v4, v5], _ =>
        have g0 := hf 0 _ rfl
        have g1 := hf 1 _ rfl
        have g2 := hf 2 _ rfl
        have g3 := hf 3 _ rfl
        have g4 := hf 4 _ rfl
        have g5 := hf 5 _ rfl
        simp [cellsI, cellsB] at g0 g1 g2 g3 g4 g5
        obtain ⟨z0, f0, _, _⟩ := DataW.trod_int Tryd.underlying3 g0
        obtain ⟨z1, f1, _, _⟩ := DataW.trod_int Tryd.underlying3 g1
        obtain ⟨z2, f2, _⟩ := DataW.trod_bool Tryd.underlying4 g2
        obtain ⟨z3, f3, _, _⟩ := DataW.trod_int Tryd.underlying3 g3
        obtain ⟨z4, f4, _, _⟩ := DataW.trod_int Tryd.underlying3 g4
        obtain ⟨z5, f5, _, _⟩ := DataW.trod_int Tryd.underlying3 g5
        simp at f0 f1 f2 f3 f4 f5
        subst f0 f1 f2 f3 f4 f5
        have e0 := hcell 0 (by omega)
        have e1 := hcell 1 (by omega)
        have e2 := hcell 2 (by omega)
        have e3 := hcell 3 (by omega)
        have e4 := hcell 4 (by omega)
        have e5 := hcell 5 (by omega)
        rw [Go.Deep.add_add] at e0 e1 e2 e3 e4 e5
        exact ⟨⟨z0, z1, z2, z3, z4, z5⟩, by simpa using e0, by simpa using e1, by simpa using e2, by simpa using e3, by simpa using e4, by simpa using e5⟩
    obtain ⟨q, hq⟩ := choose_lt' h0 each
    obtain ⟨b, off, spot⟩ := a
    have hspot : spot = none := by simpa [Addr.add] using World.cell?_spot (hq 0 (by omega)).1
    subst hspot
    refine ⟨q, fun i hi => ?_⟩
    obtain ⟨q0, q1, q2, q3, q4, q5⟩ := hq i hi
    rw [Mm.add_none] at q0 q1 q2 q3 q4 q5
    exact ⟨b, off, rfl, Hh.lt_of_cell q0, by simpa [Nat.add_assoc] using q0, by simpa [Nat.add_assoc] using q1, by simpa [Nat.add_assoc] using q2, by simpa [Nat.add_assoc] using q3, by simpa [Nat.add_assoc] using q4, by simpa [Nat.add_assoc] using q5⟩
end Go.Proofs.YtpfcpkkillklkaaDoor
