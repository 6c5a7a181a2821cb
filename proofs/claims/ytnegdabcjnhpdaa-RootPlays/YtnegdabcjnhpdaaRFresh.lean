/- The law that no handle is told twice, walked. -/
import Derived.Test.YtnegdabcjnhpdaaROwn
namespace Go.Proofs.Ytnegdabcjnhpdaa
open Go.RowKit
open Mm (Only wordsOf)

/-- What was told: handles of this client's entries, of tags that these had. -/
def Told (A : List En) (T : List Nat) : Prop := ∀ h ∈ T, ∃ i tg : Nat, i < A.length ∧ 1 ≤ tg ∧ tg ≤ (A.getD i (0, 0)).1 ∧ h = Tg.hW 0 (i : Int) tg
theorem Told.drop {A : List En} {T : List Nat} (h : Told A T) (j : Nat) : Told (A.set j ((A.getD j (0, 0)).1, -1)) T := fun x hx => by
  obtain ⟨i, tg, h1, h2, h3, h4⟩ := h x hx
  refine ⟨i, tg, by simpa using h1, h2, ?_, h4⟩
  rw [getD_setE]
  split
  · rename_i e; rw [e.1]; exact h3
  · exact h3
theorem Told.take {A : List En} {T : List Nat} (h : Told A T) {j : Nat} (hj : j < A.length) (sl : Int) : Told (A.set j ((A.getD j (0, 0)).1 + 1, sl)) (T ++ [Tg.hW 0 (j : Int) ((A.getD j (0, 0)).1 + 1)]) := fun x hx => by
  rw [List.mem_append, List.mem_singleton] at hx
  rcases hx with hx | rfl
  · obtain ⟨i, tg, h1, h2, h3, h4⟩ := h x hx
    refine ⟨i, tg, by simpa using h1, h2, ?_, h4⟩
    rw [getD_setE]
    split
    · rename_i e; rw [e.1]; show tg ≤ (A.getD i (0, 0)).1 + 1; omega
    · exact h3
  · refine ⟨j, (A.getD j (0, 0)).1 + 1, by simpa using hj, by omega, ?_, rfl⟩
    rw [getD_setE, if_pos ⟨rfl, hj⟩]
    exact Nat.le_refl _
theorem Told.fresh {A : List En} {T : List Nat} (h : Told A T) (hA : ∀ x ∈ A, EnOk x) (hl : A.length ≤ 16) {j : Nat} (hj : j < A.length) (ht : (A.getD j (0, 0)).1 < 4294967295) : Tg.hW 0 (j : Int) ((A.getD j (0, 0)).1 + 1) ∉ T := fun hx => by
  obtain ⟨i, tg, h1, h2, h3, h4⟩ := h _ hx
  have e : A.getD i (0, 0) = A[i] := by simp [List.getD, h1]
  have hi := (hA _ (List.getElem_mem h1)).t
  rw [← e] at hi
  obtain ⟨rfl, h5⟩ := hW_inj (Tg.hOk_iff.2 (by omega)) (Tg.hOk_iff.2 (by omega)) h4
  omega

structure Fr (w wr : World) (S : Nat) (a c : Int) (n : Nat) (g k : Int) (P R base : Nat) (A : List En) (v : Value) (T : List Nat) : Prop where
  ow : Ow w wr S a c n g k P R ⟨S, a, c, n, g, k, 0, A⟩
  own : wr.ownsRow base 24 1 v T.length (uvals T)
  hb : P < base ∧ R < base ∧ w.heap.size < base ∧ base ≤ wr.heap.size
  told : Told A T
theorem Fr.below {w wr w' : World} {S : Nat} {a c : Int} {n : Nat} {g k : Int} {P R base : Nat} {A : List En} {v : Value} {T : List Nat} (h : Fr w wr S a c n g k P R base A v T) (b : Below wr.heap.size wr w') : Fr w w' S a c n g k P R base A v T :=
  ⟨h.ow.below b, own_below h.own b, by have := h.hb; have := b.size; omega, h.told⟩
theorem Fr.drew {w wr : World} {S : Nat} {a c : Int} {n : Nat} {g k : Int} {P R base : Nat} {A : List En} {v : Value} {T : List Nat} (h : Fr w wr S a c n g k P R base A v T) : Fr w wr.drew S a c n g k P R base A v T := h.below (Below.refl _ _).drew
theorem Fr.chg {w wr w' : World} {S : Nat} {a c : Int} {n : Nat} {g k : Int} {P R base : Nat} {A A' : List En} {v : Value} {T : List Nat} (h : Fr w wr S a c n g k P R base A v T) (x : Chg [R] wr w') (ht : IsTab w' P R ⟨S, a, c, n, g, k, 0, A'⟩) (hT : Told A' T) : Fr w w' S a c n g k P R base A' v T :=
  ⟨h.ow.chg x ht, own_chg h.own x (by have := h.hb; simp; omega), by have := h.hb; have := x.size; omega, hT⟩
theorem Fr.push {w wr w' : World} {S : Nat} {a c : Int} {n : Nat} {g k : Int} {P R base : Nat} {A : List En} {v : Value} {T : List Nat} (h : Fr w wr S a c n g k P R base A v T) {x gg cap : Nat} (hown : w'.ownsRow base 24 1 (.slice (some ⟨gg, 0, none⟩) (T.length + 1) cap) (T.length + 1) (uvals T ++ [.int .u64 (x : Nat)])) (hg : wr.grownBy w' v.ownBlock) (hT : Told A (T ++ [x])) :
    Fr w w' S a c n g k P R base A (.slice (some ⟨gg, 0, none⟩) (T.length + 1) cap) (T ++ [x]) := by
  have ch := chg_grown hg
  have hb := h.hb
  have hrow : ∀ x, x ∈ v.ownBlock.toList → base ≤ x := fun x hx => (h.own.lt x (by simpa using hx)).1
  have hlow : ∀ x, x < base → x ∉ v.ownBlock.toList := fun x hx hm => by have := hrow x hm; omega
  refine ⟨⟨h.ow.cfg.chg ch (hlow _ (by omega)), h.ow.tab.chg ch (hlow _ (by omega)) (hlow _ (by omega)), ch.below h.ow.bel (fun x hx => by have := hrow x hx; omega) (Nat.le_refl _), h.ow.hP, h.ow.hR⟩, ?_, by have := ch.size; omega, hT⟩
  rw [uvals_push] at hown
  simpa using hown

theorem own_form {w : World} {base : Nat} {e : TypeId} {v : Value} {n : Nat} {xs : List Value} (h : w.ownsRow base e 1 v n xs) : ∃ av cv, v = .slice av n cv ∧ ∀ m, m < n → ∃ g, av = some ⟨g, 0, none⟩ ∧ w.cell? ⟨g, m, none⟩ = xs[m]? := by
  have h' := h
  obtain ⟨h1, ⟨rfl, rfl⟩ | ⟨g, cap, cur, rfl, _⟩⟩ := h
  · exact ⟨none, 0, rfl, fun m hm => by omega⟩
  · exact ⟨some ⟨g, 0, none⟩, cap, rfl, fun m hm => ⟨g, rfl, h'.cellAt m (by omega)⟩⟩
end Go.Proofs.Ytnegdabcjnhpdaa
