/- How acts that came in lie in memory. -/
import Derived.Test.YteeocnknocoefabNoneWalk
import Derived.ProofKit
import Derived.OpenShut
import Derived.ShutString
import Derived.ChangeOld
import Derived.Below
import Derived.Deep.Slices
namespace Go.Proofs.Yteeocnknocoefab
open Go.ChangeShapes Go.WideShapes Go.ChangeAt Go.RowKit Go.Deep

theorem own : ownKnob Try.prog.godebug = none := by kernel_rfl
theorem laidOut : laidOutB Try.prog = true := by kernel_rfl
theorem cells31 : Try.prog.cellsOf 31 = 4 := by kernel_rfl
theorem cells3 : Try.prog.cellsOf 3 = 1 := by kernel_rfl
theorem cells27 : Try.prog.cellsOf 27 = 1 := by kernel_rfl

theorem lt_of_cell {w : World} {b o : Nat} {v : Value} (h : w.cell? ⟨b, o, none⟩ = some v) : b < w.heap.size := by
  rcases Nat.lt_or_ge b w.heap.size with hb | hb
  · exact hb
  · have e : w.heap[b]? = none := by simp; omega
    simp [World.cell?, e] at h

/-- Acts: none, or a row of cells. -/
def IsActs (w : World) (a : Option Addr) (len : Nat) : Prop :=
  len = 0 ∨ ∃ (b off : Nat) (K A : Nat → Int) (P Q : Nat → Nat), a = some ⟨b, off, none⟩ ∧ Acts w b off len K A P Q

theorem open_acts {H : Type} {enc : TypeId × Value → H} {w : World} {a : Option Addr} {len cap fuel : Nat} {x : DataW H × List MemPlace}
    (h : DataW.trod enc Try.prog w 0 (fun _ => true) true fuel 22 (Value.slice a len cap).cells.toList = some x) : IsActs w a len := by
  rcases open_slice Try.underlying22 h with ⟨hcs, _⟩ | ⟨ad, l, c, m, n, D, Pl, hcs, _, hl, _, hmm, _, hx⟩
  · simp [Value.cells] at hcs
    exact .inl hcs.2.1
  · simp [Value.cells] at hcs
    obtain ⟨rfl, rfl, rfl⟩ := hcs
    by_cases h0 : len = 0
    · exact .inl h0
    right
    have hlm : len ≤ m := by rw [hmm]; simpa using hl
    have each : ∀ i, i < len → ∃ q : Int × Int × Int × Int, w.cell? (ad.add (i * 4)) = some (.int .i64 q.1) ∧ w.cell? (ad.add (i * 4 + 1)) = some (.int .i64 q.2.1) ∧ w.cell? (ad.add (i * 4 + 2)) = some (.int .u64 q.2.2.1) ∧
        w.cell? (ad.add (i * 4 + 3)) = some (.int .u64 q.2.2.2) ∧ (Lit.int .u64 q.2.2.1).wf = true ∧ (Lit.int .u64 q.2.2.2).wf = true := by
      intro i hi
      obtain ⟨cs', h1, h2⟩ := hx i (by omega)
      rw [cells31] at h1
      obtain ⟨_, hlen, hcell⟩ := World.cells?_some h1
      obtain ⟨xs, k, hk, hxy, _, hxl, hf⟩ := DataW.trod_struct Try.underlying31 h2
      match xs, hxl, cs', hlen with
      | [y0, y1, y2, y3], _, [v0, v1, v2, v3], _ =>
        have g0 := hf 0 _ rfl
        have g1 := hf 1 _ rfl
        have g2 := hf 2 _ rfl
        have g3 := hf 3 _ rfl
        simp [cells3, cells27] at g0 g1 g2 g3
        obtain ⟨z0, f0, _, _⟩ := DataW.trod_int Try.underlying3 g0
        obtain ⟨z1, f1, _, _⟩ := DataW.trod_int Try.underlying3 g1
        obtain ⟨z2, f2, _, p2⟩ := DataW.trod_int Try.underlying27 g2
        obtain ⟨z3, f3, _, p3⟩ := DataW.trod_int Try.underlying27 g3
        simp at f0 f1 f2 f3
        subst f0 f1 f2 f3
        have e0 := hcell 0 (by omega)
        have e1 := hcell 1 (by omega)
        have e2 := hcell 2 (by omega)
        have e3 := hcell 3 (by omega)
        rw [Go.Deep.add_add] at e0 e1 e2 e3
        exact ⟨(z0, z1, z2, z3), by simpa using e0, by simpa using e1, by simpa using e2, by simpa using e3, p2, p3⟩
    obtain ⟨q, hq⟩ := choose_lt each
    obtain ⟨b, off, spot⟩ := ad
    have hspot : spot = none := by simpa [Addr.add] using World.cell?_spot (hq 0 (by omega)).1
    subst hspot
    have bnd : ∀ i, i < len → (0 ≤ (q i).2.2.1 ∧ (q i).2.2.1 ≤ 18446744073709551615) ∧ 0 ≤ (q i).2.2.2 ∧ (q i).2.2.2 ≤ 18446744073709551615 := fun i hi => ⟨bounds_u64 (hq i hi).2.2.2.2.1, bounds_u64 (hq i hi).2.2.2.2.2⟩
    refine ⟨b, off, fun i => (q i).1, fun i => (q i).2.1, fun i => (q i).2.2.1.toNat, fun i => (q i).2.2.2.toNat, rfl, ?_, fun i hi => ?_, fun i hi => ?_, fun i hi => ?_, fun i hi => ?_, fun i hi => ?_, fun i hi => ?_⟩
    · have := (hq 0 (by omega)).1
      rw [add_none] at this
      exact lt_of_cell this
    · rw [← add_none]; exact (hq i hi).1
    · rw [Nat.add_assoc, ← add_none]; exact (hq i hi).2.1
    · have e : ((q i).2.2.1.toNat : Int) = (q i).2.2.1 := by have := bnd i hi; omega
      rw [Nat.add_assoc, ← add_none, e]; exact (hq i hi).2.2.1
    · have e : ((q i).2.2.2.toNat : Int) = (q i).2.2.2 := by have := bnd i hi; omega
      rw [Nat.add_assoc, ← add_none, e]; exact (hq i hi).2.2.2.1
    · have := bnd i hi
      show (q i).2.2.1.toNat < _
      omega
    · have := bnd i hi
      show (q i).2.2.2.toNat < _
      omega
end Go.Proofs.Yteeocnknocoefab
