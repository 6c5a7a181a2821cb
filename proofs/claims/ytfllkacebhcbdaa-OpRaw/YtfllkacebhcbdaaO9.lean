/- Layer 16: what came in, with the reach; OpRaw's row. -/
import Derived.Test.YtfllkacebhcbdaaO8
import Derived.SizedLaws
namespace Go.Proofs.Ytfllkacebhcbdaa
open Go.ChangeShapes Go.WideShapes Go.ChangeAt Go.RowKit Go.Deep
theorem weightsAll_mem {H : Type} {P : Program} {e : TypeId} {d : DataW H} {n : Nat} (hn : n ∈ d.weights P e) : ∀ l : List (DataW H), d ∈ l → n ∈ DataW.weightsAll P e l
  | [], h => by cases h
  | x :: l, h => by
    simp only [DataW.weightsAll, List.mem_append]
    rcases List.mem_cons.1 h with rfl | h
    · exact .inl hn
    · exact .inr (weightsAll_mem hn l h)
theorem bytesU : Try.prog.bytesOf 22 = 8 := by kernel_rfl
theorem bytesSU : Try.prog.bytesOf 36 = 24 := by kernel_rfl
theorem open_us_s {H : Type} {enc : TypeId × Value → H} {w : World} {v : Value} {fuel : Nat} {d : DataW H} {p : List MemPlace}
    (h : DataW.trod enc Try.prog w 0 (fun _ => true) true fuel 36 [v] = some (d, p)) (hw : ∀ n ∈ d.weights Try.prog 36, n ≤ reachBytes) (ad : Option Addr) (m cap : Nat) (hv : v = .slice ad m cap) : m * 8 ≤ reachBytes := by
  rcases open_slice1 Try.underlying36 cellsU h with ⟨h0, _⟩ | ⟨a, len, cp, q, n, V, D, Pl, hcs, hb, hl, hm, hmm, hx, hV⟩
  · simp only [List.cons.injEq, and_true] at h0
    rw [h0] at hv
    simp only [Value.slice.injEq] at hv
    rw [← hv.2.1]
    exact Nat.zero_le _
  · simp only [List.cons.injEq, and_true] at hcs
    rw [hcs] at hv
    simp only [Value.slice.injEq] at hv
    rw [← hv.2.1]
    have hd := (Prod.mk.inj hx).1
    have := hw (((List.range len).map D).length * 8 + ((List.range (q - len)).map fun j => D (len + j)).length * 8) (by
      rw [hd]
      simp only [DataW.weights, Try.underlying36, bytesU]
      rw [Nat.add_mul]
      exact List.mem_cons_self ..)
    simp only [List.length_map, List.length_range] at this
    omega
theorem open_told_s {H : Type} {enc : TypeId × Value → H} {w : World} {ad : Option Addr} {len cap fuel : Nat} {d : DataW H} {p : List MemPlace}
    (h : DataW.trod enc Try.prog w 0 (fun _ => true) true fuel 25 [.slice ad len cap] = some (d, p)) (hw : ∀ n ∈ d.weights Try.prog 25, n ≤ reachBytes) :
    ∃ T : List (List Nat), len = T.length ∧ RdT w ad T ∧ len * 24 ≤ reachBytes ∧ ∀ L ∈ T, L.length * 8 ≤ reachBytes := by
  rcases open_slice1 Try.underlying25 cellsSU h with ⟨h0, _⟩ | ⟨a, len', cap', m, n, V, D, Pl, hcs, hb, hl, hm, hmm, hx, hV⟩
  · simp only [List.cons.injEq, Value.slice.injEq, and_true] at h0
    obtain ⟨rfl, rfl, rfl⟩ := h0
    exact ⟨[], rfl, fun i x hi => by simp at hi, Nat.zero_le _, fun L hL => by cases hL⟩
  · simp only [List.cons.injEq, Value.slice.injEq, and_true] at hcs
    obtain ⟨rfl, rfl, rfl⟩ := hcs
    simp only [if_true] at hmm
    subst hmm
    have hd := (Prod.mk.inj hx).1
    have hlen : len * 24 ≤ reachBytes := by
      have := hw (((List.range len).map D).length * 24 + ((List.range (m - len)).map fun j => D (len + j)).length * 24) (by
        rw [hd]
        simp only [DataW.weights, Try.underlying25, bytesSU]
        rw [Nat.add_mul]
        exact List.mem_cons_self ..)
      simp only [List.length_map, List.length_range] at this
      omega
    have hrow : ∀ i, i < len → ∀ n ∈ (D i).weights Try.prog 36, n ≤ reachBytes := fun i hi n hn => hw n (by
      rw [hd]
      simp only [DataW.weights, Try.underlying25]
      refine List.mem_cons_of_mem _ (List.mem_append_left _ (weightsAll_mem hn _ (List.mem_map.2 ⟨i, List.mem_range.2 hi, rfl⟩))))
    rcases Nat.eq_zero_or_pos len with h0 | h0
    · subst h0
      exact ⟨[], rfl, fun i x hi => by simp at hi, Nat.zero_le _, fun L hL => by cases hL⟩
    · obtain ⟨Z, hZ⟩ := choose_lt h0 (p := fun i (z : Option Addr × List Nat × Nat) => V i = .slice z.1 z.2.1.length z.2.2 ∧ RdU w z.1 z.2.1 ∧ z.2.1.length * 8 ≤ reachBytes) fun i hi => by
        obtain ⟨a, L, c, h1, h2, h3⟩ := open_us (hV i (by omega)).2
        exact ⟨⟨a, L, c⟩, h1, h2, open_us_s (hV i (by omega)).2 (hrow i hi) _ _ _ h1⟩
      obtain ⟨b, off, spot⟩ := a
      have hspot : spot = none := by simpa [Addr.add] using World.cell?_spot (hV 0 (by omega)).1
      subst hspot
      refine ⟨(List.range len).map fun i => (Z i).2.1, by simp, fun i L hi => ?_, hlen, fun L hL => ?_⟩
      · have hi' : i < len := by have := (List.getElem?_eq_some_iff.1 hi).1; simpa using this
        have hx : (Z i).2.1 = L := by rw [List.getElem?_map, List.getElem?_range hi'] at hi; simpa using hi
        obtain ⟨z1, z2, z3⟩ := hZ i hi'
        have hc := (hV i (by omega)).1
        rw [add_none, z1, hx] at hc
        rw [hx] at z2 z3
        exact ⟨b, off, _, _, rfl, lt_of_cell hc, hc, z2, by unfold reachBytes at z3; omega⟩
      · obtain ⟨i, hi, rfl⟩ := List.mem_map.1 hL
        exact (hZ i (List.mem_range.1 hi)).2.2
theorem raw_row (of cl : Int) (raw : Nat) (self : Int) (ad : Option Addr) (len cap : Nat) (T : List (List Nat)) (more : Nat) (w : World) (hl : len = T.length) (hT : RdT w ad T) (hb : len * 24 ≤ reachBytes) (hB : ∀ L ∈ T, L.length * 8 ≤ reachBytes) :
    Calls Try.prog 6 #[.agg #[.int .i64 of, .int .i64 cl, .int .u64 (raw : Nat)], .int .i64 self, .slice ad len cap, .int .u64 (more : Nat)] w fun r w' => r = .returned (.bool true) ∧ Below w.heap.size w w' := raw_law cap hl hT (by unfold reachBytes at hb; omega) (fun L hL => by have := hB L hL; unfold reachBytes at this; omega) of cl raw self more
end Go.Proofs.Ytfllkacebhcbdaa
