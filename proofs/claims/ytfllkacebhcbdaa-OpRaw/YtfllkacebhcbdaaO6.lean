/- Layer 16: what came in. -/
import Derived.Test.YtfllkacebhcbdaaO5
import Derived.ProofKit
import Derived.OpenShut
import Derived.Deep.Slices
namespace Go.Proofs.Ytfllkacebhcbdaa
open Go.ChangeShapes Go.WideShapes Go.ChangeAt Go.RowKit Go.Deep
theorem nat_u64 {z : Int} (h : (Lit.int .u64 z).wf = true) : ∃ n : Nat, z = (n : Int) ∧ n < 18446744073709551616 := by
  have q := h
  simp only [Lit.wf, Bool.and_eq_true, decide_eq_true_eq] at q
  have q1 : (0 : Int) ≤ z := q.1
  have q2 : z ≤ 18446744073709551615 := q.2
  exact ⟨z.toNat, by omega, by omega⟩
theorem choose_lt {α : Type} {len : Nat} (h0 : 0 < len) {p : Nat → α → Prop} (h : ∀ i, i < len → ∃ z, p i z) : ∃ Z : Nat → α, ∀ i, i < len → p i (Z i) := by
  obtain ⟨z0, _⟩ := h 0 h0
  exact ⟨fun i => if hi : i < len then Classical.choose (h i hi) else z0, fun i hi => by simp only [hi, dite_true]; exact Classical.choose_spec (h i hi)⟩
theorem lt_of_cell {w : World} {b o : Nat} {v : Value} (h : w.cell? ⟨b, o, none⟩ = some v) : b < w.heap.size := by
  unfold World.cell? at h
  simp only at h
  cases hb : w.heap[b]? with
  | none => rw [hb] at h; cases h
  | some x => exact lt_of_block hb
set_option maxRecDepth 100000 in
theorem open_argL {H : Type} {enc : TypeId × Value → H} {w : World} {l : List Value} {fuel : Nat} {x : DataW H × List MemPlace}
    (h : DataW.trod enc Try.prog w 0 (fun _ => true) true fuel 24 l = some x) :
    ∃ (z0 : Int) (z1 : Int) (z2 : Nat), l = [.int .i64 z0, .int .i64 z1, .int .u64 (z2 : Nat)] ∧ z2 < 18446744073709551616 := by
  obtain ⟨xs, m, rfl, -, hl, hx, hf⟩ := DataW.trod_struct Try.underlying24 h
  have hl6 : l.length = 3 := hl.trans (by kernel_rfl)
  have hx6 : xs.length = 3 := hx
  match l, hl6, xs, hx6 with
  | [c0, c1, c2], _, [x0, x1, x2], _ =>
    have f0 : DataW.trod enc Try.prog w 0 (fun _ => true) true m 3 (([c0, c1, c2].drop 0).take (Try.prog.cellsOf 3)) = some x0 := hf 0 _ rfl
    rw [show Try.prog.cellsOf 3 = 1 from by kernel_rfl] at f0
    obtain ⟨z0, e0, -, w0⟩ := DataW.trod_int Try.underlying3 (x := x0) f0
    have f1 : DataW.trod enc Try.prog w 0 (fun _ => true) true m 3 (([c0, c1, c2].drop 1).take (Try.prog.cellsOf 3)) = some x1 := hf 1 _ rfl
    rw [show Try.prog.cellsOf 3 = 1 from by kernel_rfl] at f1
    obtain ⟨z1, e1, -, w1⟩ := DataW.trod_int Try.underlying3 (x := x1) f1
    have f2 : DataW.trod enc Try.prog w 0 (fun _ => true) true m 22 (([c0, c1, c2].drop 2).take (Try.prog.cellsOf 22)) = some x2 := hf 2 _ rfl
    rw [show Try.prog.cellsOf 22 = 1 from by kernel_rfl] at f2
    obtain ⟨y2, e2, -, w2⟩ := DataW.trod_int Try.underlying22 (x := x2) f2
    obtain ⟨z2, rfl, b2⟩ := nat_u64 w2
    simp at e0
    subst e0
    simp at e1
    subst e1
    simp at e2
    subst e2
    exact ⟨z0, z1, z2, rfl, b2⟩
theorem open_arg {H : Type} {enc : TypeId × Value → H} {w : World} {cs : Array Value} {fuel : Nat} {x : DataW H × List MemPlace}
    (h : DataW.trod enc Try.prog w 0 (fun _ => true) true fuel 24 (Value.agg cs).cells.toList = some x) :
    ∃ (z0 : Int) (z1 : Int) (z2 : Nat), cs = #[.int .i64 z0, .int .i64 z1, .int .u64 (z2 : Nat)] ∧ z2 < 18446744073709551616 := by
  obtain ⟨z0, z1, z2, e, b⟩ := open_argL h
  refine ⟨z0, z1, z2, ?_, b⟩
  obtain ⟨l⟩ := cs
  have e' : l = [.int .i64 z0, .int .i64 z1, .int .u64 (z2 : Nat)] := e
  rw [e']
set_option maxRecDepth 100000 in
theorem open_opL {H : Type} {enc : TypeId × Value → H} {w : World} {l : List Value} {fuel : Nat} {x : DataW H × List MemPlace}
    (h : DataW.trod enc Try.prog w 0 (fun _ => true) true fuel 30 l = some x) :
    ∃ (z0 : Int) (z1 : Int) (z2 : Int) (z3 : Int) (z4 : Nat) (z5 : Int) (z6 : Int) (z7 : Nat) (z8 : Int) (z9 : Int) (z10 : Nat), l = [.int .i64 z0, .int .i64 z1, .int .i64 z2, .int .i64 z3, .int .u64 (z4 : Nat), .int .i64 z5, .int .i64 z6, .int .u64 (z7 : Nat), .int .i64 z8, .int .i64 z9, .int .u64 (z10 : Nat)] ∧ z4 < 18446744073709551616 ∧ z7 < 18446744073709551616 ∧ z10 < 18446744073709551616 := by
  obtain ⟨xs, m, rfl, -, hl, hx, hf⟩ := DataW.trod_struct Try.underlying30 h
  have hl6 : l.length = 11 := hl.trans (by kernel_rfl)
  have hx6 : xs.length = 5 := hx
  match l, hl6, xs, hx6 with
  | [c0, c1, c2, c3, c4, c5, c6, c7, c8, c9, c10], _, [x0, x1, x2, x3, x4], _ =>
    have f0 : DataW.trod enc Try.prog w 0 (fun _ => true) true m 3 (([c0, c1, c2, c3, c4, c5, c6, c7, c8, c9, c10].drop 0).take (Try.prog.cellsOf 3)) = some x0 := hf 0 _ rfl
    rw [show Try.prog.cellsOf 3 = 1 from by kernel_rfl] at f0
    obtain ⟨z0, e0, -, w0⟩ := DataW.trod_int Try.underlying3 (x := x0) f0
    have f1 : DataW.trod enc Try.prog w 0 (fun _ => true) true m 3 (([c0, c1, c2, c3, c4, c5, c6, c7, c8, c9, c10].drop 1).take (Try.prog.cellsOf 3)) = some x1 := hf 1 _ rfl
    rw [show Try.prog.cellsOf 3 = 1 from by kernel_rfl] at f1
    obtain ⟨z1, e1, -, w1⟩ := DataW.trod_int Try.underlying3 (x := x1) f1
    have f2 : DataW.trod enc Try.prog w 0 (fun _ => true) true m 24 (([c0, c1, c2, c3, c4, c5, c6, c7, c8, c9, c10].drop 2).take (Try.prog.cellsOf 24)) = some x2 := hf 2 _ rfl
    rw [show Try.prog.cellsOf 24 = 3 from by kernel_rfl] at f2
    obtain ⟨z2, z3, z4, e2, b4⟩ := open_argL f2
    have f3 : DataW.trod enc Try.prog w 0 (fun _ => true) true m 24 (([c0, c1, c2, c3, c4, c5, c6, c7, c8, c9, c10].drop 5).take (Try.prog.cellsOf 24)) = some x3 := hf 3 _ rfl
    rw [show Try.prog.cellsOf 24 = 3 from by kernel_rfl] at f3
    obtain ⟨z5, z6, z7, e3, b7⟩ := open_argL f3
    have f4 : DataW.trod enc Try.prog w 0 (fun _ => true) true m 24 (([c0, c1, c2, c3, c4, c5, c6, c7, c8, c9, c10].drop 8).take (Try.prog.cellsOf 24)) = some x4 := hf 4 _ rfl
    rw [show Try.prog.cellsOf 24 = 3 from by kernel_rfl] at f4
    obtain ⟨z8, z9, z10, e4, b10⟩ := open_argL f4
    simp at e0
    subst e0
    simp at e1
    subst e1
    simp at e2
    obtain ⟨rfl, rfl, rfl⟩ := e2
    simp at e3
    obtain ⟨rfl, rfl, rfl⟩ := e3
    simp at e4
    obtain ⟨rfl, rfl, rfl⟩ := e4
    exact ⟨z0, z1, z2, z3, z4, z5, z6, z7, z8, z9, z10, rfl, b4, b7, b10⟩
theorem open_op {H : Type} {enc : TypeId × Value → H} {w : World} {cs : Array Value} {fuel : Nat} {x : DataW H × List MemPlace}
    (h : DataW.trod enc Try.prog w 0 (fun _ => true) true fuel 30 (Value.agg cs).cells.toList = some x) :
    ∃ (z0 : Int) (z1 : Int) (z2 : Int) (z3 : Int) (z4 : Nat) (z5 : Int) (z6 : Int) (z7 : Nat) (z8 : Int) (z9 : Int) (z10 : Nat), cs = #[.int .i64 z0, .int .i64 z1, .int .i64 z2, .int .i64 z3, .int .u64 (z4 : Nat), .int .i64 z5, .int .i64 z6, .int .u64 (z7 : Nat), .int .i64 z8, .int .i64 z9, .int .u64 (z10 : Nat)] ∧ z4 < 18446744073709551616 ∧ z7 < 18446744073709551616 ∧ z10 < 18446744073709551616 := by
  obtain ⟨z0, z1, z2, z3, z4, z5, z6, z7, z8, z9, z10, e, b⟩ := open_opL h
  refine ⟨z0, z1, z2, z3, z4, z5, z6, z7, z8, z9, z10, ?_, b⟩
  obtain ⟨l⟩ := cs
  have e' : l = [.int .i64 z0, .int .i64 z1, .int .i64 z2, .int .i64 z3, .int .u64 (z4 : Nat), .int .i64 z5, .int .i64 z6, .int .u64 (z7 : Nat), .int .i64 z8, .int .i64 z9, .int .u64 (z10 : Nat)] := e
  rw [e']
theorem cellsU : Try.prog.cellsOf 22 = 1 := by kernel_rfl
theorem cellsSU : Try.prog.cellsOf 36 = 1 := by kernel_rfl
theorem open_us {H : Type} {enc : TypeId × Value → H} {w : World} {v : Value} {fuel : Nat} {x : DataW H × List MemPlace}
    (h : DataW.trod enc Try.prog w 0 (fun _ => true) true fuel 36 [v] = some x) : ∃ (ad : Option Addr) (L : List Nat) (cap : Nat), v = .slice ad L.length cap ∧ RdU w ad L ∧ L.length ≤ maxLen := by
  rcases open_slice1 Try.underlying36 cellsU h with ⟨h0, _⟩ | ⟨a, len, cap, m, n, V, D, Pl, hcs, hb, hl, hm, hmm, hx, hV⟩
  · simp only [List.cons.injEq, and_true] at h0
    subst h0
    exact ⟨none, [], 0, rfl, fun i x hi => by simp at hi, Nat.zero_le _⟩
  · simp only [List.cons.injEq, and_true] at hcs
    subst hcs
    simp only [if_true] at hmm
    subst hmm
    rcases Nat.eq_zero_or_pos len with h0 | h0
    · subst h0
      exact ⟨some a, [], m, rfl, fun i x hi => by simp at hi, Nat.zero_le _⟩
    · obtain ⟨Z, hZ⟩ := choose_lt h0 (p := fun i (z : Nat) => V i = .int .u64 (z : Nat)) fun i hi => by
        obtain ⟨z, e, -, hw⟩ := DataW.trod_int Try.underlying22 (hV i (by omega)).2
        simp only [List.cons.injEq, and_true] at e
        obtain ⟨k, rfl, _⟩ := nat_u64 hw
        exact ⟨k, e⟩
      obtain ⟨b, off, spot⟩ := a
      have hspot : spot = none := by simpa [Addr.add] using World.cell?_spot (hV 0 (by omega)).1
      subst hspot
      refine ⟨some ⟨b, off, none⟩, (List.range len).map Z, m, by simp, fun i x hi => ?_, by simpa using Nat.le_trans hl hm⟩
      have hi' : i < len := by have := (List.getElem?_eq_some_iff.1 hi).1; simpa using this
      have hx : Z i = x := by rw [List.getElem?_map, List.getElem?_range hi'] at hi; simpa using hi
      have hc := (hV i (by omega)).1
      rw [add_none, hZ i hi', hx] at hc
      exact ⟨b, off, rfl, lt_of_cell hc, hc⟩
theorem open_told {H : Type} {enc : TypeId × Value → H} {w : World} {ad : Option Addr} {len cap fuel : Nat} {x : DataW H × List MemPlace}
    (h : DataW.trod enc Try.prog w 0 (fun _ => true) true fuel 25 [.slice ad len cap] = some x) : ∃ T : List (List Nat), len = T.length ∧ RdT w ad T ∧ len ≤ maxLen := by
  rcases open_slice1 Try.underlying25 cellsSU h with ⟨h0, _⟩ | ⟨a, len', cap', m, n, V, D, Pl, hcs, hb, hl, hm, hmm, hx, hV⟩
  · simp only [List.cons.injEq, Value.slice.injEq, and_true] at h0
    obtain ⟨rfl, rfl, rfl⟩ := h0
    exact ⟨[], rfl, fun i x hi => by simp at hi, Nat.zero_le _⟩
  · simp only [List.cons.injEq, Value.slice.injEq, and_true] at hcs
    obtain ⟨rfl, rfl, rfl⟩ := hcs
    simp only [if_true] at hmm
    subst hmm
    rcases Nat.eq_zero_or_pos len with h0 | h0
    · subst h0
      exact ⟨[], rfl, fun i x hi => by simp at hi, Nat.zero_le _⟩
    · obtain ⟨Z, hZ⟩ := choose_lt h0 (p := fun i (z : Option Addr × List Nat × Nat) => V i = .slice z.1 z.2.1.length z.2.2 ∧ RdU w z.1 z.2.1 ∧ z.2.1.length ≤ maxLen) fun i hi => by
        obtain ⟨a, L, c, h1, h2, h3⟩ := open_us (hV i (by omega)).2
        exact ⟨⟨a, L, c⟩, h1, h2, h3⟩
      obtain ⟨b, off, spot⟩ := a
      have hspot : spot = none := by simpa [Addr.add] using World.cell?_spot (hV 0 (by omega)).1
      subst hspot
      refine ⟨(List.range len).map fun i => (Z i).2.1, by simp, fun i L hi => ?_, Nat.le_trans hl hm⟩
      have hi' : i < len := by have := (List.getElem?_eq_some_iff.1 hi).1; simpa using this
      have hx : (Z i).2.1 = L := by rw [List.getElem?_map, List.getElem?_range hi'] at hi; simpa using hi
      obtain ⟨z1, z2, z3⟩ := hZ i hi'
      have hc := (hV i (by omega)).1
      rw [add_none, z1, hx] at hc
      rw [hx] at z2 z3
      exact ⟨b, off, _, _, rfl, lt_of_cell hc, hc, z2, by unfold maxLen at z3; omega⟩
end Go.Proofs.Ytfllkacebhcbdaa
