/- The words of a new memory, and the contract of plan.Memory. -/
import Derived.Test.YtcioomopgdhlmaaGreatDoorPAt
import Derived.Test.YtcioomopgdhlmaaGreatDoorPSizes
import Derived.Test.YtcioomopgdhlmaaGreatDoorMA
import Derived.Test.YtcioomopgdhlmaaGreatDoorTA
namespace Go.Proofs.YtcioomopgdhlmaaGreatDoor
open Go.RowKit
open Mm (IsWords IsMem zeroMS wordsOf made_words of_grown Only)

/-- A word of a new memory in which the links of the first k slots are laid. -/
def memK (C D B k p : Nat) : Nat := if p = 0 ∨ p = 3 then 1 else if (wat C D B p).1 = 9 ∧ (wat C D B p).2.1 < k then (wat C D B p).2.1 + 2 else 0
def memX (C D B N k : Nat) : List Nat := (List.range N).map (memK C D B k)

theorem memX_len (C D B N k : Nat) : (memX C D B N k).length = N := by simp [memX]
theorem memX_lt (C D B S k : Nat) (hD : 1 ≤ D) (hS : S ≤ 64) : ∀ x ∈ memX C D B (nW C D B S) k, x < 18446744073709551616 := by
  intro x hx
  simp only [memX, List.mem_map, List.mem_range] at hx
  obtain ⟨p, hp, rfl⟩ := hx
  have := wat_b (C := C) (D := D) (B := B) (S := S) hD hp
  unfold memK
  split
  · omega
  · split
    · omega
    · omega
theorem mem0 (C D B N : Nat) : ((List.replicate N 0).set 0 1).set 3 1 = memX C D B N 0 := by
  apply List.ext_getElem
  · simp [memX]
  · intro p h1 h2
    simp only [List.getElem_set, memX, List.getElem_map, List.getElem_range, memK, List.getElem_replicate]
    by_cases h3 : 3 = p
    · rw [if_pos h3, if_pos (by omega)]
    · rw [if_neg h3]
      by_cases h0 : 0 = p
      · rw [if_pos h0, if_pos (by omega)]
      · rw [if_neg h0, if_neg (by omega), if_neg (by omega)]
theorem mem_step (C D B S k : Nat) : (memX C D B (nW C D B S) k).set (4 + C + C * D + 2 * C + k * (2 + B) + 1) (k + 2) = memX C D B (nW C D B S) (k + 1) := by
  apply List.ext_getElem
  · simp [memX]
  · intro p h1 h2
    simp only [List.getElem_set, memX, List.getElem_map, List.getElem_range]
    have hw := wat_link C D B k
    by_cases hp : 4 + C + C * D + 2 * C + k * (2 + B) + 1 = p
    · rw [if_pos hp, ← hp]
      unfold memK
      rw [hw, if_neg (by omega), if_pos ⟨rfl, by show k < k + 1; omega⟩]
    · rw [if_neg hp]
      unfold memK
      by_cases h03 : p = 0 ∨ p = 3
      · rw [if_pos h03, if_pos h03]
      · rw [if_neg h03, if_neg h03]
        by_cases h9 : (wat C D B p).1 = 9 ∧ (wat C D B p).2.1 < k
        · rw [if_pos h9, if_pos ⟨h9.1, by omega⟩]
        · rw [if_neg h9, if_neg]
          rintro ⟨h91, h92⟩
          have h2 : (wat C D B p).2.1 = k := by omega
          have h3 := pos_wat C D B p
          unfold pos at h3
          rw [h91, h2] at h3
          simp at h3
          exact hp h3

theorem words_set (X : List Nat) (i v : Nat) : wordsOf (X.set i v) = (wordsOf X).setIfInBounds i (.int .u64 (v : Nat)) := by
  apply Array.ext'
  simp [wordsOf, List.map_set]
theorem words_stored {w : World} {R : Nat} {X : List Nat} (h : IsWords w R X) (i n : Nat) (v : Int) (hv : (n : Int) = v) : IsWords (w.setCell ⟨R, i, none⟩ (.int .u64 v)) R (X.set i n) := by
  subst hv
  show (w.setCell ⟨R, i, none⟩ _).heap[R]? = _
  rw [Mm.heap_setCell_at h, words_set]
theorem words_some {w : World} {R : Nat} {X : List Nat} (h : IsWords w R X) (i : Nat) (hi : i < X.length) : ∃ v : Nat, w.cell? ⟨R, i, none⟩ = some (.int .u64 (v : Nat)) := ⟨_, Mm.words_at h i hi⟩
theorem words_below {w w' : World} {R : Nat} {X : List Nat} (h : IsWords w R X) (b : Below w.heap.size w w') : IsWords w' R X := by
  show w'.heap[R]? = _
  rw [b.block R (lt_of_block h)]; exact h
theorem words_free {w : World} {R : Nat} {X : List Nat} (h : IsWords w R X) (i : Nat) : w.frozen? ⟨R, i, none⟩ = false := by
  have h' : w.heap[R]? = _ := h
  simp [World.frozen?, h']
theorem block_stored {w : World} {R i b : Nat} (v : Value) (hb : b < w.heap.size) (hne : b ≠ R) : (w.setCell ⟨R, i, none⟩ v).heap[b]? = w.heap[b]? :=
  ((Only.refl R R w).setCell (.inl rfl) v).block b hb hne hne
theorem cfg_stored {w : World} {Bc R i : Nat} {s a c d g k : Int} (h : IsCfg w Bc s a c d g k) (hne : Bc ≠ R) (v : Value) : IsCfg (w.setCell ⟨R, i, none⟩ v) Bc s a c d g k := by
  show (w.setCell _ _).heap[Bc]? = _
  rw [block_stored v h.lt hne]; exact h
theorem list_stored {w : World} {Q R i C D B n : Nat} (h : IsL w Q C D B n) (hne : Q ≠ R) (v : Value) : IsL (w.setCell ⟨R, i, none⟩ v) Q C D B n := by
  have hl := h.lt
  obtain ⟨cur, h1, h2⟩ := h
  exact ⟨cur, (block_stored v hl hne).trans h1, h2⟩

theorem of_n {R N : Nat} {X : List Nat} {w : World} (h : IsWords w R X) (hX : ∀ x ∈ X, x < 18446744073709551616) (hN : X.length = N) (hl : N ≤ 65536) :
    Calls Tryz.prog 12 #[.slice (some ⟨R, 0, none⟩) N N] w fun e w' => ∃ M G, e = .returned (.pointer (some ⟨M, 0, none⟩)) ∧ IsMem w' M G (zeroMS X) ∧ w.heap.size ≤ M ∧ w.heap.size ≤ G ∧ Below w.heap.size w w' := by
  subst hN
  exact Mm.of_any h hX hl

theorem nW_b {C D B S : Nat} (hC : C ≤ 8) (hD : D ≤ 16) (hS : S ≤ 64) (hB8 : B ≤ 8) : 4 ≤ nW C D B S ∧ nW C D B S ≤ 796 := by
  have h1 : C * D ≤ 128 := Nat.mul_le_mul hC hD
  have h2 : S * (2 + B) ≤ 640 := Nat.mul_le_mul hS (by omega : 2 + B ≤ 10)
  unfold nW; omega

end Go.Proofs.YtcioomopgdhlmaaGreatDoor
