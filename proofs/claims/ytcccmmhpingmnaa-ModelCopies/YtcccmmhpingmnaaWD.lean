/- Acts that came in, opened. -/
import Derived.Test.YtcccmmhpingmnaaWC
import Derived.WalkKit
import Derived.ProofKit
import Derived.OpenShut
import Derived.ShutString
import Derived.ChangeOld
import Derived.Below
import Derived.Deep.Slices
namespace Go.Proofs.Ytcccmmhpingmnaa
open Go.ChangeShapes Go.WideShapes Go.ChangeAt Go.RowKit Go.Deep
set_option linter.unusedVariables false

theorem nat_u64 {z : Int} (h : (Lit.int .u64 z).wf = true) : ∃ n : Nat, z = (n : Int) ∧ n < 18446744073709551616 := by
  have q := h
  simp only [Lit.wf, Bool.and_eq_true, decide_eq_true_eq] at q
  have q1 : (0 : Int) ≤ z := q.1
  have q2 : z ≤ 18446744073709551615 := q.2
  exact ⟨z.toNat, by omega, by omega⟩
theorem choose_lt {α : Type} {len : Nat} (h0 : 0 < len) {p : Nat → α → Prop} (h : ∀ i, i < len → ∃ z, p i z) : ∃ Z : Nat → α, ∀ i, i < len → p i (Z i) := by
  obtain ⟨z0, _⟩ := h 0 h0
  exact ⟨fun i => if hi : i < len then Classical.choose (h i hi) else z0, fun i hi => by simp only [hi, dite_true]; exact Classical.choose_spec (h i hi)⟩
theorem lt_of_cell {w : World} {b o : Nat} {v : Value} (h : w.cell? ⟨b, o, none⟩ = some v) : b < w.heap.size := by
  unfold World.cell? at h
  simp only at h
  cases hb : w.heap[b]? with
  | none => rw [hb] at h; cases h
  | some x => exact lt_of_block hb
set_option maxRecDepth 100000 in
theorem open_answerL {H : Type} {enc : TypeId × Value → H} {w : World} {l : List Value} {fuel : Nat} {x : DataW H × List MemPlace}
    (h : DataW.trod enc Try.prog w 0 (fun _ => true) true fuel 41 l = some x) :
    ∃ (z0 : Int) (z1 : Nat) (z2 : Bool), l = [.int .i64 z0, .int .u64 (z1 : Nat), .bool z2] ∧ z1 < 18446744073709551616 := by
  obtain ⟨xs, m, rfl, -, hl, hx, hf⟩ := DataW.trod_struct Try.underlying41 h
  have hl6 : l.length = 3 := hl.trans (by kernel_rfl)
  have hx6 : xs.length = 3 := hx
  match l, hl6, xs, hx6 with
  | [c0, c1, c2], _, [x0, x1, x2], _ =>
    have f0 : DataW.trod enc Try.prog w 0 (fun _ => true) true m 39 (([c0, c1, c2].drop 0).take (Try.prog.cellsOf 39)) = some x0 := hf 0 _ rfl
    rw [show Try.prog.cellsOf 39 = 1 from by kernel_rfl] at f0
    obtain ⟨z0, e0, -, w0⟩ := DataW.trod_int Try.underlying39 (x := x0) f0
    have f1 : DataW.trod enc Try.prog w 0 (fun _ => true) true m 35 (([c0, c1, c2].drop 1).take (Try.prog.cellsOf 35)) = some x1 := hf 1 _ rfl
    rw [show Try.prog.cellsOf 35 = 1 from by kernel_rfl] at f1
    obtain ⟨y1, e1, -, w1⟩ := DataW.trod_int Try.underlying35 (x := x1) f1
    obtain ⟨z1, rfl, b1⟩ := nat_u64 w1
    have f2 : DataW.trod enc Try.prog w 0 (fun _ => true) true m 4 (([c0, c1, c2].drop 2).take (Try.prog.cellsOf 4)) = some x2 := hf 2 _ rfl
    rw [show Try.prog.cellsOf 4 = 1 from by kernel_rfl] at f2
    obtain ⟨z2, e2, -⟩ := DataW.trod_bool Try.underlying4 (x := x2) f2
    simp at e0
    subst e0
    simp at e1
    subst e1
    simp at e2
    subst e2
    exact ⟨z0, z1, z2, rfl, b1⟩
theorem open_answer {H : Type} {enc : TypeId × Value → H} {w : World} {cs : Array Value} {fuel : Nat} {x : DataW H × List MemPlace}
    (h : DataW.trod enc Try.prog w 0 (fun _ => true) true fuel 41 (Value.agg cs).cells.toList = some x) :
    ∃ (z0 : Int) (z1 : Nat) (z2 : Bool), cs = #[.int .i64 z0, .int .u64 (z1 : Nat), .bool z2] ∧ z1 < 18446744073709551616 := by
  obtain ⟨z0, z1, z2, e, b⟩ := open_answerL h
  refine ⟨z0, z1, z2, ?_, b⟩
  obtain ⟨l⟩ := cs
  have e' : l = [.int .i64 z0, .int .u64 (z1 : Nat), .bool z2] := e
  rw [e']
set_option maxRecDepth 100000 in
theorem open_actL {H : Type} {enc : TypeId × Value → H} {w : World} {l : List Value} {fuel : Nat} {x : DataW H × List MemPlace}
    (h : DataW.trod enc Try.prog w 0 (fun _ => true) true fuel 43 l = some x) :
    ∃ (z0 : Int) (z1 : Int) (z2 : Int) (z3 : Int) (z4 : Int) (z5 : Int) (z6 : Int) (z7 : Int) (z8 : Nat) (z9 : Bool), l = [.int .i64 z0, .int .i64 z1, .int .i64 z2, .int .i64 z3, .int .i64 z4, .int .i64 z5, .int .i64 z6, .int .i64 z7, .int .u64 (z8 : Nat), .bool z9] ∧ z8 < 18446744073709551616 := by
  obtain ⟨xs, m, rfl, -, hl, hx, hf⟩ := DataW.trod_struct Try.underlying43 h
  have hl6 : l.length = 10 := hl.trans (by kernel_rfl)
  have hx6 : xs.length = 8 := hx
  match l, hl6, xs, hx6 with
  | [c0, c1, c2, c3, c4, c5, c6, c7, c8, c9], _, [x0, x1, x2, x3, x4, x5, x6, x7], _ =>
    have f0 : DataW.trod enc Try.prog w 0 (fun _ => true) true m 3 (([c0, c1, c2, c3, c4, c5, c6, c7, c8, c9].drop 0).take (Try.prog.cellsOf 3)) = some x0 := hf 0 _ rfl
    rw [show Try.prog.cellsOf 3 = 1 from by kernel_rfl] at f0
    obtain ⟨z0, e0, -, w0⟩ := DataW.trod_int Try.underlying3 (x := x0) f0
    have f1 : DataW.trod enc Try.prog w 0 (fun _ => true) true m 3 (([c0, c1, c2, c3, c4, c5, c6, c7, c8, c9].drop 1).take (Try.prog.cellsOf 3)) = some x1 := hf 1 _ rfl
    rw [show Try.prog.cellsOf 3 = 1 from by kernel_rfl] at f1
    obtain ⟨z1, e1, -, w1⟩ := DataW.trod_int Try.underlying3 (x := x1) f1
    have f2 : DataW.trod enc Try.prog w 0 (fun _ => true) true m 3 (([c0, c1, c2, c3, c4, c5, c6, c7, c8, c9].drop 2).take (Try.prog.cellsOf 3)) = some x2 := hf 2 _ rfl
    rw [show Try.prog.cellsOf 3 = 1 from by kernel_rfl] at f2
    obtain ⟨z2, e2, -, w2⟩ := DataW.trod_int Try.underlying3 (x := x2) f2
    have f3 : DataW.trod enc Try.prog w 0 (fun _ => true) true m 3 (([c0, c1, c2, c3, c4, c5, c6, c7, c8, c9].drop 3).take (Try.prog.cellsOf 3)) = some x3 := hf 3 _ rfl
    rw [show Try.prog.cellsOf 3 = 1 from by kernel_rfl] at f3
    obtain ⟨z3, e3, -, w3⟩ := DataW.trod_int Try.underlying3 (x := x3) f3
    have f4 : DataW.trod enc Try.prog w 0 (fun _ => true) true m 3 (([c0, c1, c2, c3, c4, c5, c6, c7, c8, c9].drop 4).take (Try.prog.cellsOf 3)) = some x4 := hf 4 _ rfl
    rw [show Try.prog.cellsOf 3 = 1 from by kernel_rfl] at f4
    obtain ⟨z4, e4, -, w4⟩ := DataW.trod_int Try.underlying3 (x := x4) f4
    have f5 : DataW.trod enc Try.prog w 0 (fun _ => true) true m 3 (([c0, c1, c2, c3, c4, c5, c6, c7, c8, c9].drop 5).take (Try.prog.cellsOf 3)) = some x5 := hf 5 _ rfl
    rw [show Try.prog.cellsOf 3 = 1 from by kernel_rfl] at f5
    obtain ⟨z5, e5, -, w5⟩ := DataW.trod_int Try.underlying3 (x := x5) f5
    have f6 : DataW.trod enc Try.prog w 0 (fun _ => true) true m 3 (([c0, c1, c2, c3, c4, c5, c6, c7, c8, c9].drop 6).take (Try.prog.cellsOf 3)) = some x6 := hf 6 _ rfl
    rw [show Try.prog.cellsOf 3 = 1 from by kernel_rfl] at f6
    obtain ⟨z6, e6, -, w6⟩ := DataW.trod_int Try.underlying3 (x := x6) f6
    have f7 : DataW.trod enc Try.prog w 0 (fun _ => true) true m 41 (([c0, c1, c2, c3, c4, c5, c6, c7, c8, c9].drop 7).take (Try.prog.cellsOf 41)) = some x7 := hf 7 _ rfl
    rw [show Try.prog.cellsOf 41 = 3 from by kernel_rfl] at f7
    obtain ⟨z7, z8, z9, e7, b8⟩ := open_answerL f7
    simp at e0
    subst e0
    simp at e1
    subst e1
    simp at e2
    subst e2
    simp at e3
    subst e3
    simp at e4
    subst e4
    simp at e5
    subst e5
    simp at e6
    subst e6
    simp at e7
    obtain ⟨rfl, rfl, rfl⟩ := e7
    exact ⟨z0, z1, z2, z3, z4, z5, z6, z7, z8, z9, rfl, b8⟩
theorem open_act {H : Type} {enc : TypeId × Value → H} {w : World} {cs : Array Value} {fuel : Nat} {x : DataW H × List MemPlace}
    (h : DataW.trod enc Try.prog w 0 (fun _ => true) true fuel 43 (Value.agg cs).cells.toList = some x) :
    ∃ (z0 : Int) (z1 : Int) (z2 : Int) (z3 : Int) (z4 : Int) (z5 : Int) (z6 : Int) (z7 : Int) (z8 : Nat) (z9 : Bool), cs = #[.int .i64 z0, .int .i64 z1, .int .i64 z2, .int .i64 z3, .int .i64 z4, .int .i64 z5, .int .i64 z6, .int .i64 z7, .int .u64 (z8 : Nat), .bool z9] ∧ z8 < 18446744073709551616 := by
  obtain ⟨z0, z1, z2, z3, z4, z5, z6, z7, z8, z9, e, b⟩ := open_actL h
  refine ⟨z0, z1, z2, z3, z4, z5, z6, z7, z8, z9, ?_, b⟩
  obtain ⟨l⟩ := cs
  have e' : l = [.int .i64 z0, .int .i64 z1, .int .i64 z2, .int .i64 z3, .int .i64 z4, .int .i64 z5, .int .i64 z6, .int .i64 z7, .int .u64 (z8 : Nat), .bool z9] := e
  rw [e']
instance : Inhabited At := ⟨⟨0, 0, 0, 0, 0, 0, 0, 0, 0, false⟩⟩
theorem cellsAt : Try.prog.cellsOf 43 = 10 := by kernel_rfl
theorem choose_at {len : Nat} {p : Nat → At → Prop} (h : ∀ i, i < len → ∃ z, p i z) : ∃ E : List At, len = E.length ∧ ∀ i e, E[i]? = some e → p i e := by
  obtain ⟨Z, hZ⟩ := Go.Deep.choose_lt h
  refine ⟨(List.range len).map Z, by simp, fun i e hi => ?_⟩
  rw [List.getElem?_map] at hi
  by_cases q : i < len
  · rw [List.getElem?_range q] at hi
    obtain rfl := Option.some.inj hi
    exact hZ i q
  · rw [List.getElem?_eq_none (by simpa using q)] at hi
    cases hi
theorem open_acts {H : Type} {enc : TypeId × Value → H} {w : World} {ad : Option Addr} {len cap fuel : Nat} {x : DataW H × List MemPlace}
    (h : DataW.trod enc Try.prog w 0 (fun _ => true) true fuel 22 [.slice ad len cap] = some x) : ∃ E : List At, len = E.length ∧ RdAt w ad E := by
  rcases open_slice Try.underlying22 h with ⟨hcs, _⟩ | ⟨a, len', cap', m, n, D, Pl, hcs, _, hl, hm, hmm, _, hx⟩
  · simp only [List.cons.injEq, Value.slice.injEq, and_true] at hcs
    obtain ⟨rfl, rfl, rfl⟩ := hcs
    exact ⟨[], rfl, fun i e hi => by simp at hi⟩
  · simp only [List.cons.injEq, Value.slice.injEq, and_true] at hcs
    obtain ⟨rfl, rfl, rfl⟩ := hcs
    simp only [if_true] at hmm
    subst hmm
    have each : ∀ i, i < len → ∃ e : At, ∀ k, k < 10 → w.cell? (a.add (i * 10 + k)) = e.row[k]? := by
      intro i hi
      obtain ⟨cs', h1, h2⟩ := hx i (by omega)
      rw [cellsAt] at h1
      obtain ⟨_, hlen, hcell⟩ := World.cells?_some h1
      obtain ⟨z0, z1, z2, z3, z4, z5, z6, z7, z8, z9, e0, _⟩ := open_actL h2
      subst e0
      refine ⟨⟨z0, z1, z2, z3, z4, z5, z6, z7, z8, z9⟩, fun k hk => ?_⟩
      have q := hcell k
      rw [add_add] at q
      match k, hk with
      | 0, _ => exact (q (by decide)).trans rfl
      | 1, _ => exact (q (by decide)).trans rfl
      | 2, _ => exact (q (by decide)).trans rfl
      | 3, _ => exact (q (by decide)).trans rfl
      | 4, _ => exact (q (by decide)).trans rfl
      | 5, _ => exact (q (by decide)).trans rfl
      | 6, _ => exact (q (by decide)).trans rfl
      | 7, _ => exact (q (by decide)).trans rfl
      | 8, _ => exact (q (by decide)).trans rfl
      | 9, _ => exact (q (by decide)).trans rfl
      | k + 10, hk => omega
    obtain ⟨E, hE, hP⟩ := choose_at each
    refine ⟨E, hE, fun i e hi => ?_⟩
    have hlt := (List.getElem?_eq_some_iff.1 hi).1
    have q := hP i e hi
    obtain ⟨b, off, spot⟩ := a
    have c0 := q 0 (by decide)
    have hspot : spot = none := by
      have q0 := hP 0 _ (List.getElem?_eq_getElem (show 0 < E.length by omega))
      have z0 : w.cell? ((⟨b, off, spot⟩ : Addr).add (0 * 10 + 0)) = some (.int .i64 (E[0]'(by omega)).cl) := q0 0 (by decide)
      simpa [Addr.add] using World.cell?_spot z0
    subst hspot
    refine ⟨b, off, rfl, ?_, fun k hk => ?_⟩
    · rw [add_none] at c0
      exact lt_of_cell (v := .int .i64 e.cl) c0
    · have c := q k hk
      rw [add_none] at c
      rw [← c, Nat.add_assoc]
theorem copies_row (ad1 : Option Addr) (len1 cap1 : Nat) (A1 : List At) (ad2 : Option Addr) (len2 cap2 : Nat) (A2 : List At) (ad3 : Option Addr) (len3 cap3 : Nat) (A3 : List At) (w : World) (h1 : len1 = A1.length) (r1 : RdAt w ad1 A1) (h2 : len2 = A2.length) (r2 : RdAt w ad2 A2) (h3 : len3 = A3.length) (r3 : RdAt w ad3 A3) :
    Calls Try.prog 7 #[.slice ad1 len1 cap1, .slice ad2 len2 cap2, .slice ad3 len3 cap3] w fun r w' => r = .returned (.bool true) ∧ Below w.heap.size w w' := by
  subst h1 h2 h3
  exact copies_law cap1 cap2 cap3 r1 r2 r3
end Go.Proofs.Ytcccmmhpingmnaa
