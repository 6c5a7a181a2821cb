/- Slices that came in, opened: of words, of ints, of bools, of slices of bools. -/
import Derived.Test.YtjbjijkkmlehgaaDoorAAwake
import Derived.ProofKit
import Derived.Deep.Slices
namespace Go.Proofs.YtjbjijkkmlehgaaDoor
open Go.ChangeShapes Go.WideShapes Go.ChangeAt Go.RowKit Go.Deep

theorem lt_of_cell {w : World} {b o : Nat} {v : Value} (h : w.cell? ⟨b, o, none⟩ = some v) : b < w.heap.size := by
  rcases Nat.lt_or_ge b w.heap.size with hb | hb
  · exact hb
  · have e : w.heap[b]? = none := by simp; omega
    simp [World.cell?, e] at h

/-- The elements of a slice that came in, each as 'p' says. -/
def CameP {α : Type} (p : Value → α → Prop) (w : World) (ad : Option Addr) (Z : List α) : Prop :=
  ∀ i (hi : i < Z.length), ∃ b off v, ad = some ⟨b, off, none⟩ ∧ b < w.heap.size ∧ w.cell? ⟨b, off + i, none⟩ = some v ∧ p v Z[i]

theorem open_elems {H : Type} {enc : TypeId × Value → H} {w : World} {t e : TypeId} {ad : Option Addr} {len cap fuel : Nat} {x : DataW H × List MemPlace} {α : Type} {p : Value → α → Prop}
    (ht : Tryd.prog.underlying t = some (.slice e)) (hc : Tryd.prog.cellsOf e = 1)
    (hp : ∀ n v y, DataW.trod enc Tryd.prog w 0 (fun _ => true) true n e [v] = some y → ∃ z, p v z)
    (h : DataW.trod enc Tryd.prog w 0 (fun _ => true) true fuel t [.slice ad len cap] = some x) :
    ∃ Z : List α, Z.length = len ∧ len ≤ cap ∧ cap ≤ maxLen ∧ CameP p w ad Z := by
  rcases open_slice1 ht hc h with ⟨h0, _⟩ | ⟨a, len', cap', m, n, V, D, Pl, hcs, hb, hl, hm, hmm, hx, hV⟩
  · simp only [List.cons.injEq, Value.slice.injEq, and_true] at h0
    obtain ⟨rfl, rfl, rfl⟩ := h0
    exact ⟨[], rfl, Nat.le_refl _, Nat.zero_le _, fun i hi => by simp at hi⟩
  · simp only [List.cons.injEq, Value.slice.injEq, and_true] at hcs
    obtain ⟨rfl, rfl, rfl⟩ := hcs
    simp only [if_true] at hmm
    subst hmm
    have hz : ∀ i, i < len → ∃ z, p (V i) z := fun i hi => hp n (V i) _ (hV i (by omega)).2
    by_cases h0 : len = 0
    · subst h0
      exact ⟨[], rfl, hl, hm, fun i hi => by simp at hi⟩
    · obtain ⟨z0, _⟩ := hz 0 (by omega)
      have : ∃ Z : Nat → α, ∀ i, i < len → p (V i) (Z i) := ⟨fun i => if hi : i < len then Classical.choose (hz i hi) else z0, fun i hi => by simp only [hi, dite_true]; exact Classical.choose_spec (hz i hi)⟩
      obtain ⟨Z, hZ⟩ := this
      obtain ⟨b, off, spot⟩ := a
      have hspot : spot = none := by simpa [Addr.add] using World.cell?_spot (hV 0 (by omega)).1
      subst hspot
      refine ⟨(List.range len).map Z, by simp, hl, hm, fun i hi => ?_⟩
      simp only [List.length_map, List.length_range] at hi
      have hc := (hV i (by omega)).1
      rw [Mm.add_none] at hc
      exact ⟨b, off, V i, rfl, lt_of_cell hc, hc, by simpa using hZ i hi⟩

/-- A word; an int; a bool. -/
def isU (v : Value) (z : Nat) : Prop := v = .int .u64 (z : Nat) ∧ z < 18446744073709551616
def isZ (v : Value) (z : Int) : Prop := v = .int .i64 z
def isB (v : Value) (z : Bool) : Prop := v = .bool z

theorem open_u64s {H : Type} {enc : TypeId × Value → H} {w : World} {ad : Option Addr} {len cap fuel : Nat} {x : DataW H × List MemPlace}
    (h : DataW.trod enc Tryd.prog w 0 (fun _ => true) true fuel 44 [.slice ad len cap] = some x) : ∃ Z : List Nat, Z.length = len ∧ len ≤ cap ∧ cap ≤ maxLen ∧ CameP isU w ad Z :=
  open_elems Tryd.underlying44 (by kernel_rfl) (fun n v y hy => by
    obtain ⟨z, e, -, hw⟩ := DataW.trod_int Tryd.underlying35 (x := y) hy
    simp only [List.cons.injEq, and_true] at e
    obtain ⟨m, rfl, hm⟩ := Tg.u64_nat hw
    exact ⟨m, e, hm⟩) h
theorem open_i64s {H : Type} {enc : TypeId × Value → H} {w : World} {ad : Option Addr} {len cap fuel : Nat} {x : DataW H × List MemPlace}
    (h : DataW.trod enc Tryd.prog w 0 (fun _ => true) true fuel 25 [.slice ad len cap] = some x) : ∃ Z : List Int, Z.length = len ∧ len ≤ cap ∧ cap ≤ maxLen ∧ CameP isZ w ad Z :=
  open_elems Tryd.underlying25 (by kernel_rfl) (fun n v y hy => by
    obtain ⟨z, e, -, hw⟩ := DataW.trod_int Tryd.underlying3 (x := y) hy
    simp only [List.cons.injEq, and_true] at e
    exact ⟨z, e⟩) h
theorem open_words {H : Type} {enc : TypeId × Value → H} {w : World} {ad : Option Addr} {len cap fuel : Nat} {x : DataW H × List MemPlace}
    (h : DataW.trod enc Tryd.prog w 0 (fun _ => true) true fuel 44 (Value.slice ad len cap).cells.toList = some x) : ∃ Y : List Nat, Y.length = len ∧ SrW w ad Y ∧ (∀ i, Y.getD i 0 < 18446744073709551616) ∧ len ≤ cap ∧ cap ≤ maxLen := by
  obtain ⟨Z, h1, h2, h3, h4⟩ := open_u64s h
  refine ⟨Z, h1, fun i hi => ?_, fun i => ?_, h2, h3⟩
  · obtain ⟨b, off, v, e, hb, hc, hv, _⟩ := h4 i hi
    refine ⟨b, off, e, hb, ?_⟩
    rw [hc, hv]
    simp [hi]
  · by_cases hi : i < Z.length
    · obtain ⟨b, off, v, e, hb, hc, hv, hz⟩ := h4 i hi
      simpa [hi] using hz
    · simp [hi]
end Go.Proofs.YtjbjijkkmlehgaaDoor
