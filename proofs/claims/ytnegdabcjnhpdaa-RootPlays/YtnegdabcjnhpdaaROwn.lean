/- Slices that came in, and a list of words that grows. -/
import Derived.Test.YtnegdabcjnhpdaaRApart
import Derived.ProofKit
import Derived.Deep.Slices
import Derived.Deep.AppendLies
namespace Go.Proofs.Ytnegdabcjnhpdaa
open Go.ChangeShapes Go.WideShapes Go.ChangeAt Go.RowKit Go.Deep

def RdI (w : World) (ad : Option Addr) (n : Nat) (Z : Nat → Int) : Prop := ∀ i, i < n → ∃ b off, ad = some ⟨b, off, none⟩ ∧ b < w.heap.size ∧ w.cell? ⟨b, off + i, none⟩ = some (.int .i64 (Z i))
theorem RdI.below {w w' : World} {ad : Option Addr} {n : Nat} {Z : Nat → Int} (h : RdI w ad n Z) (b : Below w.heap.size w w') : RdI w' ad n Z := fun i hi => by
  obtain ⟨x, off, h1, h2, h3⟩ := h i hi
  exact ⟨x, off, h1, Nat.lt_of_lt_of_le h2 b.size, by rw [b.cell (p := ⟨x, off + i, none⟩) h2]; exact h3⟩
theorem cellsI : Try.prog.cellsOf 3 = 1 := by kernel_rfl
theorem choose_lt' {α : Type} {len : Nat} (h0 : 0 < len) {p : Nat → α → Prop} (h : ∀ i, i < len → ∃ z, p i z) : ∃ Z : Nat → α, ∀ i, i < len → p i (Z i) := by
  obtain ⟨z0, _⟩ := h 0 h0
  exact ⟨fun i => if hi : i < len then Classical.choose (h i hi) else z0, fun i hi => by simp only [hi, dite_true]; exact Classical.choose_spec (h i hi)⟩
theorem lt_of_cell {w : World} {b o : Nat} {v : Value} (h : w.cell? ⟨b, o, none⟩ = some v) : b < w.heap.size := by
  unfold World.cell? at h
  simp only at h
  cases hb : w.heap[b]? with
  | none => rw [hb] at h; cases h
  | some x => exact lt_of_block hb
theorem add_none (b o i : Nat) : (⟨b, o, none⟩ : Addr).add i = ⟨b, o + i, none⟩ := by simp [Addr.add]

theorem open_ints {H : Type} {enc : TypeId × Value → H} {w : World} {ad : Option Addr} {len cap fuel : Nat} {x : DataW H × List MemPlace}
    (h : DataW.trod enc Try.prog w 0 (fun _ => true) true fuel 31 [.slice ad len cap] = some x) : ∃ Z : Nat → Int, RdI w ad len Z ∧ len ≤ maxLen := by
  rcases open_slice1 Try.underlying31 cellsI h with ⟨h0, _⟩ | ⟨a, len', cap', m, n, V, D, Pl, hcs, hb, hl, hm, hmm, hx, hV⟩
  · simp only [List.cons.injEq, Value.slice.injEq, and_true] at h0
    obtain ⟨rfl, rfl, rfl⟩ := h0
    exact ⟨fun _ => 0, fun i hi => by omega, Nat.zero_le _⟩
  · simp only [List.cons.injEq, Value.slice.injEq, and_true] at hcs
    obtain ⟨rfl, rfl, rfl⟩ := hcs
    simp only [if_true] at hmm
    subst hmm
    rcases Nat.eq_zero_or_pos len with h0 | h0
    · exact ⟨fun _ => 0, fun i hi => by omega, by omega⟩
    · obtain ⟨Z, hZ⟩ := choose_lt' h0 (p := fun i (z : Int) => V i = .int .i64 z) fun i hi => by
        obtain ⟨z, e, -, hw⟩ := DataW.trod_int Try.underlying3 (hV i (by omega)).2
        simp only [List.cons.injEq, and_true] at e
        exact ⟨z, e⟩
      obtain ⟨b, off, spot⟩ := a
      have hspot : spot = none := by simpa [Addr.add] using World.cell?_spot (hV 0 (by omega)).1
      subst hspot
      refine ⟨Z, fun i hi => ⟨b, off, rfl, ?_, ?_⟩, Nat.le_trans hl hm⟩
      · have hc := (hV i (by omega)).1
        rw [add_none] at hc
        exact lt_of_cell hc
      · have hc := (hV i (by omega)).1
        rw [add_none, hZ i hi] at hc
        exact hc

/-! A list of words that grows. -/
def uvals (T : List Nat) : List Value := T.map fun x => .int .u64 (x : Nat)
theorem uvals_len (T : List Nat) : (uvals T).length = T.length := by simp [uvals]
theorem uvals_push (T : List Nat) (x : Nat) : uvals T ++ [.int .u64 (x : Nat)] = uvals (T ++ [x]) := by simp [uvals]
theorem own_below {w w' : World} {base : Nat} {e : TypeId} {size : Nat} {v : Value} {n : Nat} {xs : List Value} (h : w.ownsRow base e size v n xs) (b : Below w.heap.size w w') : w'.ownsRow base e size v n xs :=
  h.kept (row := none) ⟨b.os, b.tape, b.output, b.size, fun i hi _ => b.block i hi⟩ (by cases v.ownBlock <;> simp)
theorem own_chg {L : List Nat} {w w' : World} {base : Nat} {e : TypeId} {size : Nat} {v : Value} {n : Nat} {xs : List Value} (h : w.ownsRow base e size v n xs) (c : Chg L w w') (hL : ∀ i ∈ L, i < base) : w'.ownsRow base e size v n xs := by
  obtain ⟨h1, h2 | ⟨g, cap, cur, e1, e2, e3, e4⟩⟩ := h
  · exact ⟨h1, .inl h2⟩
  · exact ⟨h1, .inr ⟨g, cap, cur, e1, e2, c.at e3 (fun hm => by have := hL g hm; omega), e4⟩⟩
theorem chg_grown {w w' : World} {row : Option Nat} (h : w.grownBy w' row) : Chg row.toList w w' := ⟨h.os, h.tape, h.output, h.size, fun i hi hn => h.block i hi fun e => hn (by rw [← e]; simp)⟩
theorem info24' : (Try.prog.info? 24).map (fun i => (i.zero, i.size, i.bytes)) = some (some (.int .u64 0), 1, 8) := by kernel_rfl

theorem hW_inj {c c' : Int} {i j t u : Nat} (h1 : Tg.hOk c i t = true) (h2 : Tg.hOk c' j u = true) (h : Tg.hW c (i : Int) t = Tg.hW c' (j : Int) u) : i = j ∧ t = u := by
  rw [Tg.hW_yes h1, Tg.hW_yes h2] at h
  have a1 := Tg.hOk_iff.1 h1
  have a2 := Tg.hOk_iff.1 h2
  omega
end Go.Proofs.Ytnegdabcjnhpdaa
