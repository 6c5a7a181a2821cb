/- Orders of events: the plain half. -/
import Derived.Test.YtecppcakgfohbabHF
import Derived.Test.YtecppcakgfohbabHX
namespace Go.Proofs.Ytecppcakgfohbab
open Go.RowKit Go.Sort

theorem cmpI_lt (x y : Int) : cmpI x y < 0 ↔ x < y := by unfold cmpI; split <;> (try split) <;> omega
theorem cmpI_eq (x y : Int) : cmpI x y = 0 ↔ x = y := by unfold cmpI; split <;> (try split) <;> omega
theorem orZ_lt (x : Int) (l : List Int) : orZ (x :: l) < 0 ↔ x < 0 ∨ (x = 0 ∧ orZ l < 0) := by
  show (if x = 0 then orZ l else x) < 0 ↔ _
  split <;> omega
theorem orZ_nil : ¬ orZ [] < 0 := by show ¬ (0 : Int) < 0; omega
theorem opI_lt (e f : Ev) : opI e f < 0 ↔ e.cl < f.cl ∨ (e.cl = f.cl ∧ e.op < f.op) := by
  unfold opI
  simp only [orZ_lt, cmpI_lt, cmpI_eq, orZ_nil, and_false, or_false]
theorem ptI_lt (e f : Ev) : ptI e f < 0 ↔ e.pt < f.pt ∨ (e.pt = f.pt ∧ (bhI e < bhI f ∨ (bhI e = bhI f ∧ (e.cl < f.cl ∨ (e.cl = f.cl ∧ e.op < f.op))))) := by
  have h0 : opI e f = 0 → (¬ (e.cl < f.cl ∨ (e.cl = f.cl ∧ e.op < f.op))) := fun h => by rw [← opI_lt]; omega
  unfold ptI
  simp only [orZ_lt, cmpI_lt, cmpI_eq, opI_lt, orZ_nil, and_false, or_false]
def evO (E : List Ev) (x y : Nat) : Int := opI (E.getD x default) (E.getD y default)
def evP (E : List Ev) (x y : Nat) : Int := ptI (E.getD x default) (E.getD y default)
theorem evO_swo (E : List Ev) : SWO (ltN (evO E)) := by
  constructor
  · intro x
    simp only [ltN, evO, decide_eq_false_iff_not, opI_lt]
    omega
  · intro x y z
    simp only [ltN, evO, decide_eq_true_eq, opI_lt]
    omega
  · intro x y z
    simp only [ltN, evO, decide_eq_false_iff_not, opI_lt]
    omega
theorem evP_swo (E : List Ev) : SWO (ltN (evP E)) := by
  constructor
  · intro x
    simp only [ltN, evP, decide_eq_false_iff_not, ptI_lt]
    omega
  · intro x y z
    simp only [ltN, evP, decide_eq_true_eq, ptI_lt]
    omega
  · intro x y z
    simp only [ltN, evP, decide_eq_false_iff_not, ptI_lt]
    omega
/-- All numbers below n, in order. -/
structure IsOrd (lt : Nat → Nat → Bool) (n : Nat) (l : List Nat) : Prop where
  perm : l.Perm (List.range n)
  srt : l.Pairwise fun x y => rl lt x y = true
theorem IsOrd.uniq {lt : Nat → Nat → Bool} (hS : SWO lt) {n : Nat} {l m : List Nat} (h : IsOrd lt n l) (k : IsOrd lt n m) : l = m := by
  refine (h.perm.trans k.perm.symm).eq_of_pairwise (fun a b _ _ h1 h2 => ?_) h.srt k.srt
  have := (rl_swo hS).trans _ _ _ h1 h2
  rw [(rl_swo hS).irrefl] at this
  cases this
theorem IsOrd.len {lt : Nat → Nat → Bool} {n : Nat} {l : List Nat} (h : IsOrd lt n l) : l.length = n := by rw [h.perm.length_eq, List.length_range]
theorem IsOrd.of {lt : Nat → Nat → Bool} {n : Nat} {d dn : Array Nat} (hd : d.size = n) (h0 : ∀ i, i < n → d[i]! = i) (hp : PermIn 0 n d dn) (hs : Srt lt 0 n dn) : IsOrd lt n dn.toList := by
  have e1 : d.toList = List.range n := by
    apply List.ext_getElem
    · simp [hd]
    · intro i h1 h2
      have hi : i < n := by simpa using h2
      have := h0 i hi
      rw [getElem!_pos d i (by omega)] at this
      simp [this]
  have z := hp.1
  have e2 : dn.extract 0 n = dn := by rw [← hd, ← z]; simp
  have e3 : d.extract 0 n = d := by rw [← hd]; simp
  have hp2 := hp.2.2
  rw [e2, e3, e1] at hp2
  refine ⟨hp2, ?_⟩
  rw [List.pairwise_iff_getElem]
  intro i j hi hj hij
  have := hs i j (Nat.zero_le _) hij (by have : j < dn.size := by simpa using hj
                                         omega)
  rw [getElem!_pos dn i (by simpa using hi), getElem!_pos dn j (by simpa using hj)] at this
  simpa using this

/-- Ints that are read: a slice of them. -/
def RdZ (w : World) (ad : Option Addr) (Z : List Int) : Prop := ∀ i x, Z[i]? = some x → ∃ b off, ad = some ⟨b, off, none⟩ ∧ b < w.heap.size ∧ w.cell? ⟨b, off + i, none⟩ = some (.int .i64 x)
theorem RdZ.below {w w' : World} {ad : Option Addr} {Z : List Int} (h : RdZ w ad Z) (b : Below w.heap.size w w') : RdZ w' ad Z := fun i x hi => by
  obtain ⟨g, off, h1, h2, h3⟩ := h i x hi
  exact ⟨g, off, h1, Nat.lt_of_lt_of_le h2 b.size, (b.cell (p := ⟨g, off + i, none⟩) h2).trans h3⟩
theorem RdEv.kept {w w' : World} {ad : Option Addr} {E : List Ev} (h : RdEv w ad E) (hs : w.heap.size ≤ w'.heap.size) (b : ∀ k, k < w.heap.size → w'.heap[k]? = w.heap[k]?) : RdEv w' ad E := fun i e hi => by
  obtain ⟨g, off, h1, h2, h3⟩ := h i e hi
  refine ⟨g, off, h1, Nat.lt_of_lt_of_le h2 hs, fun k hk => ?_⟩
  rw [← h3 k hk]
  simp only [World.cell?, b g h2]
/-- The first k numbers, then 0. -/
def ascA (n k : Nat) : Array Value := Array.ofFn (n := n) fun i => .int .i64 (if i.1 < k then (i.1 : Int) else 0)
theorem ascA_at (n k j : Nat) : (ascA n k)[j]? = if j < n then some (.int .i64 (if j < k then (j : Int) else 0)) else none := by
  unfold ascA
  rw [Array.getElem?_ofFn]
  by_cases h : j < n
  · rw [dif_pos h, if_pos h]
  · rw [dif_neg h, if_neg h]
theorem ascA_made (n : Nat) : madeCells #[.int .i64 0] n = ascA n 0 := by
  apply Array.ext_getElem?
  intro j
  rw [ascA_at]
  by_cases hj : j < n
  · simp [madeCells, hj, Nat.mod_one]
  · simp [madeCells, hj]
theorem ascA_set {n k : Nat} (hk : k < n) : (ascA n k).setIfInBounds k (.int .i64 (k : Int)) = ascA n (k + 1) := by
  have hs : (ascA n k).size = n := by simp [ascA]
  apply Array.ext_getElem?
  intro j
  rw [Array.getElem?_setIfInBounds, ascA_at, ascA_at, hs]
  by_cases e : k = j
  · subst e
    rw [if_pos rfl, if_pos hk, if_pos hk, if_pos (by omega)]
  · rw [if_neg e]
    by_cases h1 : j < n
    · rw [if_pos h1, if_pos h1]
      by_cases h2 : j < k
      · rw [if_pos h2, if_pos (by omega)]
      · rw [if_neg h2, if_neg (by omega)]
    · rw [if_neg h1, if_neg h1]
theorem asc_row {w : World} {g n : Nat} (h : w.heap[g]? = some (.cells (ascA n n) 3 (0, 0))) : SR w g 0 n (Array.range n) w := by
  have e : ∀ i, i < n → (Array.range n)[i]! = i := fun i hi => by rw [getElem!_pos _ i (by simpa using hi)]; simp
  refine ⟨rfl, rfl, rfl, Nat.le_refl _, lt_of_block h, fun _ _ _ => rfl, ⟨_, h, fun i hi => ?_⟩, by simp, fun i hi => by rw [e i hi]; exact hi⟩
  rw [ascA_at, Nat.zero_add, if_pos hi, if_pos hi, e i hi]
  rfl
theorem heap_putH {w : World} {g j : Nat} {c : Array Value} {t : TypeId} (h : w.heap[g]? = some (.cells c t (0, 0))) (v : Value) : (w.setCell ⟨g, j, none⟩ v).heap[g]? = some (.cells (c.setIfInBounds j v) t (0, 0)) := by
  simp only [World.setCell, Array.getElem?_modify, if_true, h]
  rfl
theorem cells_freeH {w : World} {g : Nat} {c : Array Value} {t : TypeId} (h : w.heap[g]? = some (.cells c t (0, 0))) (j : Nat) : w.frozen? ⟨g, j, none⟩ = false := by
  simp only [World.frozen?, h]
  simp
theorem ne_cellsH {w : World} {B C : Nat} {c d : Array Value} {t s : TypeId} {x y : Nat × Nat} (h1 : w.heap[B]? = some (.cells c t x)) (h2 : w.heap[C]? = some (.cells d s y)) (ht : t ≠ s) : B ≠ C := by
  rintro rfl
  rw [h1] at h2
  simp only [Option.some.injEq, Obj.cells.injEq] at h2
  exact ht h2.2.1
theorem Try.info3' : (Try.prog.info? 3).map (fun i => (i.zero, i.size, i.bytes)) = some (some (.int .i64 0), 1, 8) := by kernel_rfl
end Go.Proofs.Ytecppcakgfohbab
